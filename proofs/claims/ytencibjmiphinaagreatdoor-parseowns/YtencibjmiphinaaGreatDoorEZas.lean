/- What the tokens of a text are like. -/
import Derived.Test.YtencibjmiphinaaGreatDoorELxLexToks
import Derived.Test.YtencibjmiphinaaGreatDoorEZac
import Derived.Test.YtencibjmiphinaaGreatDoorEOPaWh
import Derived.Test.YtencibjmiphinaaGreatDoorRows
import Derived.WalkKit
import Derived.WalkSpells
import Derived.WalkLawsBesides
import Derived.Deep.RegionHeld3
import Derived.Deep.QuietTactic
import Derived.BigQuiet
namespace Go.Proofs.YtencibjmiphinaaGreatDoor
open Go.RowKit
/-- What a token may hold. -/
def TkFit (x:Int × Int × ByteArray):Prop:=(x.1=1/\Lx.nameOk x.2.2=true) ∨ (x.1=2/\-2147483648<=x.2.1/\x.2.1<=2147483647) ∨ (x.1=3/\x.2.2.size<=64) ∨ (x.1=4/\x.2.2.size=1)
theorem tokL_fit {l:List UInt8} {k:Int} {n:Nat} {v:Int} {t:ByteArray} (h:Lx.tokL l=some (k,n,v,t)):TkFit (k,v,t)/\t.size<=max l.length 64:=by
 cases l with
 | nil=>simp [Lx.tokL] at h
 | cons c r =>
  change Lx.tokC c r=_ at h
  unfold Lx.tokC at h
  split at h
  ·split at h
   ·rename_i hn
    cases h
    refine ⟨Or.inl ⟨rfl,hn⟩, ?_⟩
    have:(⟨((c :: r).take (Lx.rl Lx.okB (c :: r))).toArray⟩:ByteArray).size=((c :: r).take (Lx.rl Lx.okB (c :: r))).length:=rfl
    rw [this,List.length_take];omega
   ·cases h
  ·have hv:∀ (m:List UInt8) (j:Nat),(Lx.pv m).map (fun q=>((if q.1=2 then (3:Int) else 2),j,q.2.1,q.2.2))=some (k,n,v,t)->TkFit (k,v,t)/\t.size<=64:=fun m j hm=>by
    obtain ⟨q,h1,hq⟩:=Option.map_eq_some_iff.1 hm
    rcases Lx.isVal_cases (Lx.pv_of h1) with ⟨z,rfl,a1,a2,_⟩ | ⟨z,rfl,a1,_⟩
    ·cases hq;exact ⟨Or.inr (Or.inl ⟨rfl,a1,a2⟩),by show (0:Nat)<=64;omega⟩
    ·cases hq;exact ⟨Or.inr (Or.inr (Or.inl ⟨rfl,a1⟩)),a1⟩
   split at h
   ·have:=hv _ _ h;exact ⟨this.1,by have:=this.2;omega⟩
   ·split at h
    ·split at h
     ·have:=hv _ _ h;exact ⟨this.1,by have:=this.2;omega⟩
     ·cases h
    ·split at h
     ·cases h;exact ⟨Or.inr (Or.inr (Or.inr ⟨rfl,rfl⟩)),by show 1<=_;simp;omega⟩
     ·cases h
theorem toksL_fit:∀ (m:Nat) (l:List UInt8) (i:Nat),l.length<=m->m<=4096->(Lx.toksL l i).1.length<=l.length/\∀ t ∈ (Lx.toksL l i).1,TkFit (t.1,t.2.2.2.1,t.2.2.2.2)/\t.2.2.2.2.size<=4096
 | m,l,i,hl,hm=>by
  rw [Lx.toksL]
  simp only
  split
  ·simp
  ·split
   ·simp
   ·rename_i k n v t ht
    have h1:=Lx.tokL_len ht
    have h2:=tokL_fit ht
    simp only [List.length_drop] at h1 h2
    have h3:0 < m:=by omega
    have ih:=toksL_fit (m - 1) ((l.drop (Lx.rl Lx.isBlank l)).drop n) (i + Lx.rl Lx.isBlank l + n) (by simp only [List.length_drop];omega) (by omega)
    simp only [List.length_drop] at ih
    refine ⟨by simp only [List.length_cons];omega,fun x hx=>?_⟩
    rcases List.mem_cons.1 hx with rfl | hx
    ·exact ⟨h2.1,by have:=h2.2;simp only;omega⟩
    ·exact ih.2 x hx
termination_by m=>m
decreasing_by omega
end Go.Proofs.YtencibjmiphinaaGreatDoor
namespace Go.Proofs.YtencibjmiphinaaGreatDoor
open Go.RowKit
noncomputable def parL (s:ByteArray):Rs Nd:=if 4096 < s.size then .bad 4096 else match (Lx.toksL s.data.toList 0).2 with
 | some p=>.bad p
 | none=>whL s.size (Lx.toksL s.data.toList 0).1
/-- What Parse leaves. -/
def PrR (w:World) (x:Rs Nd) (e:Ending) (w':World):Prop:=match x with
 | .bad p=>e=.returned (.tuple #[zVal,.int .i64 p,.int .i64 10])/\Below w.heap.size w w'
 | .ok t _=>(∃ v,e=.returned (.tuple #[v.val,.int .i64 0,.int .i64 0])/\NdFrom w' w.heap.size v t)/\Below w.heap.size w w'
theorem own_cap {B cap:Nat} {w:World} {q:Option Addr} {l:List Tk} (h:Lx.OwnK Lx.encT 56 5 B w q cap l):l.length<=cap/\cap<=maxLen:=by
 rcases h.2 with ⟨h0,h1⟩ | ⟨g,c,cur,h0,_,_,h1,h2,_⟩
 ·simp only [Value.slice.injEq] at h0
  obtain ⟨_,h3,h4⟩:=h0
  exact ⟨by omega,by unfold maxLen;omega⟩
 ·simp only [Value.slice.injEq] at h0
  obtain ⟨_,_,h4⟩:=h0
  subst h4;exact ⟨h1,h2⟩
theorem res_far {w w1 w2:World} {o:Obj} (hb:Below (w.alloc (.cells #[.int .i64 0,.string ⟨#[]⟩,.slice none 0 0,.slice none 0 0,.int .i64 0,.int .i64 0,.int .i64 0,.slice none 0 0] 29)).heap.size (w.alloc (.cells #[.int .i64 0,.string ⟨#[]⟩,.slice none 0 0,.slice none 0 0,.int .i64 0,.int .i64 0,.int .i64 0,.slice none 0 0] 29)) w1) (hg:(w1.alloc o).grownBy w2 (some w1.heap.size)):w2.heap[w.heap.size]? = some (.cells #[.int .i64 0,.string ⟨#[]⟩,.slice none 0 0,.slice none 0 0,.int .i64 0,.int .i64 0,.int .i64 0,.slice none 0 0] 29)/\w.heap.size + 1<=w1.heap.size/\Below w.heap.size w w2:=by
 have hs:=hb.size
 simp at hs
 refine ⟨(hg.block _ (by simp;omega) (fun e=>by have e2:w.heap.size=w1.heap.size:=(by simpa using e);omega)).trans ((Below.heap_alloc w1 o _ (by omega)).trans ((hb.block _ (by simp)).trans (box_nw w _))),hs, ?_⟩
 exact ((below_sub (bel_z w) hb).alloc (by omega) o).grown hg (by simp;omega) (fun k e=>by cases e;omega)
/-- The parser's box is made. -/
theorem ps_new {B cap:Nat} {w:World} {q:Option Addr} {l:List Tk} (h:Lx.OwnK Lx.encT 56 5 B w q cap l) (en:Int) (hs:∀ t ∈ l,t.2.2.2.2.size<=4096):Ps (w.alloc (.cells #[.slice q l.length cap,.int .i64 en] 66)) w.heap.size en l:=by
 have hc:=own_cap h
 refine ⟨q,cap,box_nw w _,hc.1,by have:=hc.2;unfold maxLen at this;omega,fun h0=>?_,hs⟩
 obtain ⟨b,off,hq,hb,ht⟩:=h.tks.1 h0
 exact ⟨b,off,hq,hb,ht.below ((Below.refl w.heap.size w).alloc (Nat.le_refl _) _) hb⟩
set_option maxHeartbeats 4000000 in
theorem parse_any (s:ByteArray) (w:World) (hG:Lx.G w) :
  Calls Tryz.prog 10 #[.string s] w fun e w'=>PrR w (parL s) e w':=by
 by_cases hs:4096 < s.size
 ·have hx:parL s=.bad 4096:=by unfold parL;rw [if_pos hs]
  rw [hx]
  have hc:=Lx.tokens_long s (w.alloc (.cells #[.int .i64 0,.string ⟨#[]⟩,.slice none 0 0,.slice none 0 0,.int .i64 0,.int .i64 0,.int .i64 0,.slice none 0 0] 29)) hs
  clear hx hs hG
  go_enter Tryz.func10,Tryz.ntmps10
  go_wp2_with (go_at_call 23;refine hc.mono ?_;rintro e w1 ⟨rfl,rfl⟩)
  refine bodyPost_ret (v:=.tuple #[zVal,.int .i64 4096,.int .i64 10]) (by simp [results,Tryz.results10,go_sem,zVal]) rfl ⟨rfl, ?_⟩
  exact bel_z w
 ·have hc:=Lx.tokens_any s (w.alloc (.cells #[.int .i64 0,.string ⟨#[]⟩,.slice none 0 0,.slice none 0 0,.int .i64 0,.int .i64 0,.int .i64 0,.slice none 0 0] 29)) (Lx.G_below hG (bel_z w)) (by omega)
  have hf:=toksL_fit 4096 s.data.toList 0 (by simp;omega) (Nat.le_refl _)
  cases ht:(Lx.toksL s.data.toList 0).2 with
  | some p =>
   have hx:parL s=.bad p:=by unfold parL;rw [if_neg hs,ht]
   rw [hx]
   have HT:=hide ht
   clear hx hs hG hf ht
   go_enter Tryz.func10,Tryz.ntmps10
   go_wp2_with (go_at_call 23;refine hc.mono ?_;rintro e w1 ⟨h1,hb⟩;obtain ⟨p',h2,rfl⟩ | ⟨h2,_⟩:=h1 <;> rw [uh HT] at h2 <;> cases h2;have HB:=hide hb;clear hb;obtain ⟨z1,⟨q0,q1,q2,q3,q4,q5,q6,q7⟩,qf⟩:=boxR (uh HB))
   refine bodyPost_ret (v:=.tuple #[zVal,.int .i64 p,.int .i64 10]) (by simp [results,Tryz.results10,go_sem,zVal, *]) rfl ⟨rfl, ?_⟩
   exact set8_below (below_sub (bel_z w) (uh HB)) (Nat.le_refl _) _ _ _ _ _ _ _ _
  | none =>
   obtain ⟨l,hl⟩:∃ l,(Lx.toksL s.data.toList 0).1=l:=⟨_,rfl⟩
   have hx:parL s=whL s.size l:=by unfold parL;rw [if_neg hs,ht,hl]
   rw [hx]
   have HT:=hide ht
   rw [hl] at hf
   have hll:l.length<=100000:=by have:=hf.1;simp at this;omega
   have HF:=hide (fun t ht=>(hf.2 t ht).2)
   have HL:=hide hl
   clear hx hs hG hf ht hl
   cases ew:whL s.size l with
   | bad p =>
    have EW:=hide ew
    clear ew
    go_enter Tryz.func10,Tryz.ntmps10
    go_wp2_with first
     | (go_at_call 23;refine hc.mono ?_;rintro e w1 ⟨h1,hb⟩;obtain ⟨p',h2,_⟩ | ⟨_,q,cap,rfl,ho⟩:=h1;(rw [uh HT] at h2;cases h2);rw [uh HL] at ho;have HO:=hide ho;have HB:=hide hb;clear hb ho;rw [uh HL])
     | (go_at_call 25;refine (whole_any w1.heap.size s.size l _ (ps_new (uh HO) _ (uh HF)) hll).mono ?_;rintro e w2 hq;rw [uh EW] at hq;obtain ⟨rfl,hg⟩:=hq;obtain ⟨y1,y2,y3⟩:=res_far (uh HB) hg;obtain ⟨q0,q1,q2,q3,q4,q5,q6,q7⟩:=of8' y1;have qf:∀ o,w2.frozen? ⟨w.heap.size,o,none⟩=false:=fun o=>frozen_free y1;have Y3:=hide y3;clear hg y1 y2 y3;unfold zVal)
    refine bodyPost_ret (v:=.tuple #[zVal,.int .i64 p,.int .i64 10]) (by simp [results,Tryz.results10,go_sem,zVal, *]) rfl ⟨rfl, ?_⟩
    exact set8_below (uh Y3) (Nat.le_refl _) _ _ _ _ _ _ _ _
   | ok t r =>
    have EW:=hide ew
    clear ew
    go_enter Tryz.func10,Tryz.ntmps10
    go_wp2_with first
     | (go_at_call 23;refine hc.mono ?_;rintro e w1 ⟨h1,hb⟩;obtain ⟨p',h2,_⟩ | ⟨_,q,cap,rfl,ho⟩:=h1;(rw [uh HT] at h2;cases h2);rw [uh HL] at ho;have HO:=hide ho;have HB:=hide hb;clear hb ho;rw [uh HL])
     | (go_at_call 25;refine (whole_any w1.heap.size s.size l _ (ps_new (uh HO) _ (uh HF)) hll).mono ?_;rintro e w2 hq;rw [uh EW] at hq;obtain ⟨⟨v,rfl,hv⟩,hg⟩:=hq;obtain ⟨y1,y2,y3⟩:=res_far (uh HB) hg;obtain ⟨q0,q1,q2,q3,q4,q5,q6,q7⟩:=of8' y1;have qf:∀ o,w2.frozen? ⟨w.heap.size,o,none⟩=false:=fun o=>frozen_free y1;have Y3:=hide y3;have HV:=hide hv;have Y2:=hide y2;clear hg y1 y2 y3 hv;unfold Nv.val)
    refine bodyPost_ret (v:=.tuple #[v.val,.int .i64 0,.int .i64 0]) (by simp [results,Tryz.results10,go_sem,Nv.val, *]) rfl ⟨⟨v,rfl, ?_⟩,set8_below (uh Y3) (Nat.le_refl _) _ _ _ _ _ _ _ _⟩
    have h9:=uh HV
    simp at h9
    exact (h9.up (set8_up _ (by have:=uh Y2;omega) _ _ _ _ _ _ _ _)).mono (by have:=uh Y2;omega)
end Go.Proofs.YtencibjmiphinaaGreatDoor
namespace Go.Proofs.YtencibjmiphinaaGreatDoor.Sc
open Go.RowKit
theorem ret_int {k:IntKind} {a b:Int} (h:a=b):Ending.returned (.int k a)=.returned (.int k b):=by rw [h]
theorem ret_bool {a b:Bool} (h:a=b):Ending.returned (.bool a)=.returned (.bool b):=by rw [h]
theorem hide {p:Prop} (h:p):Hid p:=h
theorem uh {p:Prop} (h:Hid p):p:=h.out
def cmpI (a b:Int):Int:=if a < b then -1 else if b < a then 1 else 0
theorem cmpI_lt {a b:Int} (h:a < b):cmpI a b=-1:=by unfold cmpI;rw [if_pos h]
theorem cmpI_gt {a b:Int} (h:b < a):cmpI a b=1:=by unfold cmpI;rw [if_neg (by omega),if_pos h]
theorem cmpI_eq {a b:Int} (h:a=b):cmpI a b=0:=by unfold cmpI;rw [if_neg (by omega),if_neg (by omega)]
def cmpS (a b:List UInt8):Int:=if Op.bytesLess a b then -1 else if a == b then 0 else 1
set_option maxHeartbeats 400000 in
theorem ints_any (a b:Int) (w:World) :
  Calls Tryz.prog 65 #[.int .i64 a,.int .i64 b] w fun e w'=>e=.returned (.int .i64 (cmpI a b))/\w'=w:=by
 by_cases h1:a < b
 ·go_enter Tryz.func65,Tryz.ntmps65
  go_wp2
  go_ret
  exact ⟨ret_int (cmpI_lt h1).symm,rfl⟩
 ·by_cases h2:b < a
  ·go_enter Tryz.func65,Tryz.ntmps65
   go_wp2
   go_ret
   exact ⟨ret_int (cmpI_gt h2).symm,rfl⟩
  ·go_enter Tryz.func65,Tryz.ntmps65
   go_wp2
   go_ret
   exact ⟨ret_int (cmpI_eq (by omega)).symm,rfl⟩
theorem cmpS_lt {a b:List UInt8} (h:Op.bytesLess a b=true):cmpS a b=-1:=by unfold cmpS;rw [if_pos h]
theorem cmpS_gt {a b:List UInt8} (h:Op.bytesLess a b=false) (h2:(!a == b)=true):cmpS a b=1:=by
 unfold cmpS;rw [if_neg (by simp [h]),if_neg (by simpa using h2)]
theorem cmpS_eq {a b:List UInt8} (h:Op.bytesLess a b=false) (h2:(!a == b)=false):cmpS a b=0:=by
 unfold cmpS;rw [if_neg (by simp [h]),if_pos (by simpa using h2)]
set_option maxHeartbeats 400000 in
theorem cmpStr_any (a b:ByteArray) (w:World) :
  Calls Tryz.prog 64 #[.string a,.string b] w fun e w'=>e=.returned (.int .i64 (cmpS a.toList b.toList))/\w'=w:=by
 go_enter Tryz.func64,Tryz.ntmps64
 go_wp2
 all_goals go_ret
 ·exact ⟨ret_int (cmpS_lt (by assumption)).symm,rfl⟩
 ·exact ⟨ret_int (cmpS_gt (by assumption) (by assumption)).symm,rfl⟩
 ·exact ⟨ret_int (cmpS_eq (by assumption) (by assumption)).symm,rfl⟩
/-- In form? 0: yes, 1: no. -/
def chkV (k n:Int) (s:ByteArray):Int :=
 if (k=1/\-2147483648<=n/\n<=2147483647/\s.size=0) ∨ (k=2/\n=0/\s.size<=64) then 0 else 1
theorem size_toList (s:ByteArray):s.toList.length=s.size:=by rw [ByteArray.toList_eq];simp
theorem empty_iff (s:ByteArray):s.toList.isEmpty=true ↔ s.size=0:=by
 rw [List.isEmpty_iff,<- List.length_eq_zero_iff,size_toList]
theorem chk_yes1 {k n:Int} {s:ByteArray} (h0:(k == 1)=true) (h1:-2147483648<=n) (h2:n<=2147483647) (h3:s.toList.isEmpty=true):chkV k n s=0:=by
 unfold chkV;rw [if_pos (Or.inl ⟨by simpa using h0,h1,h2,(empty_iff s).1 h3⟩)]
theorem chk_yes2 {k n:Int} {s:ByteArray} (h0:(k == 2)=true) (h1:n=0) (h2:(s.size:Int)<=64):chkV k n s=0:=by
 unfold chkV;rw [if_pos (Or.inr ⟨by simpa using h0,h1,by omega⟩)]
theorem chk_no1 {k n:Int} {s:ByteArray} (h0:(k == 1)=true) (h:¬ (-2147483648<=n/\n<=2147483647/\s.size=0)):chkV k n s=1:=by
 have:k=1:=by simpa using h0
 unfold chkV;rw [if_neg];rintro (⟨_,h'⟩ | ⟨h',_⟩);exact h h';omega
theorem chk_no2 {k n:Int} {s:ByteArray} (h0:(k == 1)=false) (h:¬ (k=2/\n=0/\s.size<=64)):chkV k n s=1:=by
 have:k ≠ 1:=by simpa using h0
 unfold chkV;rw [if_neg];rintro (⟨h',_⟩ | h');omega;exact h h'
set_option maxHeartbeats 400000 in
theorem check_any (k n:Int) (s:ByteArray) (w:World) :
  Calls Tryz.prog 115 #[.agg #[.int .i64 k,.int .i64 n,.string s]] w fun e w'=>e=.returned (.int .i64 (chkV k n s))/\Below w.heap.size w w':=by
 go_enter Tryz.func115,Tryz.ntmps115
 go_wp2
 all_goals (go_ret;refine ⟨ret_int ?_,(Below.refl _ _).alloc (Nat.le_refl _) _⟩)
 ·exact (chk_yes1 (by assumption) (by assumption) (by assumption) (by assumption)).symm
 ·exact (chk_no1 (by assumption) (by rw [<- empty_iff];simp [*])).symm
 ·exact (chk_no1 (by assumption) (by omega)).symm
 ·exact (chk_no1 (by assumption) (by omega)).symm
 ·exact (chk_yes2 (by assumption) (by assumption) (by assumption)).symm
 ·exact (chk_no2 (by assumption) (by omega)).symm
 ·exact (chk_no2 (by assumption) (by omega)).symm
 ·rename_i h
  have:k ≠ 2:=by simpa using h
  exact (chk_no2 (by assumption) (by omega)).symm
theorem less_irrefl:∀ l:List UInt8,Op.bytesLess l l=false
 | []=>rfl
 | c :: l=>by simp [Op.bytesLess,less_irrefl l]
theorem less_asymm:∀ l m:List UInt8,Op.bytesLess l m=true->Op.bytesLess m l=false
 | _,[]=>by simp [Op.bytesLess]
 | [],_ :: _=>by simp [Op.bytesLess]
 | a :: x,b :: y=>by
  have ih:=less_asymm x y
  simp only [Op.bytesLess,Bool.or_eq_true,Bool.and_eq_true,decide_eq_true_eq,beq_iff_eq,Bool.or_eq_false_iff,decide_eq_false_iff_not,Bool.and_eq_false_iff,beq_eq_false_iff_ne]
  rintro (h | ⟨rfl,h⟩)
  ·refine ⟨fun h2=>?_,Or.inl fun h2=>?_⟩
   ·exact absurd (UInt8.lt_trans h h2) (UInt8.lt_irrefl _)
   ·subst h2;exact absurd h (UInt8.lt_irrefl _)
  ·exact ⟨UInt8.lt_irrefl _,Or.inr (ih h)⟩
theorem less_total:∀ l m:List UInt8,Op.bytesLess l m=false->l ≠ m->Op.bytesLess m l=true
 | [],[]=>by simp
 | _ :: _,[]=>by simp [Op.bytesLess]
 | [],_ :: _=>by simp [Op.bytesLess]
 | a :: x,b :: y=>by
  have ih:=less_total x y
  simp only [Op.bytesLess,Bool.or_eq_true,Bool.and_eq_true,decide_eq_true_eq,beq_iff_eq,Bool.or_eq_false_iff,decide_eq_false_iff_not,Bool.and_eq_false_iff,beq_eq_false_iff_ne]
  rintro ⟨h1,h2⟩ h3
  by_cases e:a=b
  ·subst e
   refine Or.inr ⟨rfl,ih ?_ fun h=>h3 (by rw [h])⟩
   rcases h2 with h2 | h2
   ·exact absurd rfl h2
   ·exact h2
  ·left
   rw [UInt8.lt_iff_toNat_lt] at h1 ⊢
   have:a.toNat ≠ b.toNat:=fun h=>e (UInt8.toNat_inj.1 h)
   omega
theorem less_trans:∀ l m n:List UInt8,Op.bytesLess l m=true->Op.bytesLess m n=true->Op.bytesLess l n=true
 | _,_,[]=>by simp [Op.bytesLess]
 | _,[],_ :: _=>by intro h;simp [Op.bytesLess] at h
 | [],_ :: _,_ :: _=>by simp [Op.bytesLess]
 | a :: x,b :: y,c :: z=>by
  have ih:=less_trans x y z
  simp only [Op.bytesLess,Bool.or_eq_true,Bool.and_eq_true,decide_eq_true_eq,beq_iff_eq]
  rintro (h1 | ⟨rfl,h1⟩) (h2 | ⟨rfl,h2⟩)
  ·exact Or.inl (UInt8.lt_trans h1 h2)
  ·exact Or.inl h1
  ·exact Or.inl h2
  ·exact Or.inr ⟨rfl,ih h1 h2⟩
theorem cmpS_cases (a b:List UInt8):(Op.bytesLess a b=true/\cmpS a b=-1) ∨ (a=b/\cmpS a b=0) ∨ (Op.bytesLess b a=true/\cmpS a b=1):=by
 cases h:Op.bytesLess a b
 ·by_cases e:a=b
  ·subst e;exact Or.inr (Or.inl ⟨rfl,by unfold cmpS;rw [if_neg (by simp [h]),if_pos (by simp)]⟩)
  ·exact Or.inr (Or.inr ⟨less_total a b h e,by unfold cmpS;rw [if_neg (by simp [h]),if_neg (by simpa using e)]⟩)
 ·exact Or.inl ⟨rfl,cmpS_lt h⟩
theorem drop_at (s:ByteArray) (k:Nat) (h:k < s.size):s.data.toList.drop k=s[k] :: s.data.toList.drop (k + 1):=by
 rw [List.drop_eq_getElem_cons (by simpa using h)];rfl
end Go.Proofs.YtencibjmiphinaaGreatDoor.Sc

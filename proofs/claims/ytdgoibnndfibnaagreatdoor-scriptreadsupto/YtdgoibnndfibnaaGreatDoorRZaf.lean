/- An op in form is read back from its line. Plain. -/
import Derived.Test.YtdgoibnndfibnaaGreatDoorRZae
namespace Go.Proofs.YtdgoibnndfibnaaGreatDoor
def callWs (o:Sop):List Bs :=
 if o.ck=1 then [callW o.ck,quoteL (Lb o.text)]
 else if o.ck=2 then [callW o.ck,Go.Lib.itoa o.id,quoteL (Lb o.text)]
 else if o.ck=3 then [callW o.ck,Go.Lib.itoa o.id]
 else callW o.ck :: o.ev.map pairW
/-- The words of an op's line. -/
def opWs (o:Sop):List Bs:=if o.kind=1 then opW o.kind :: Go.Lib.itoa o.who :: callWs o else opW o.kind :: o.nums.map Go.Lib.itoa
theorem callB_words (o:Sop):callB o=wordsW (callWs o):=by
 unfold callB callWs
 split
 ·simp [wordsW,tailW]
 ·split
  ·simp [wordsW,tailW,numsB]
  ·split
   ·simp [wordsW,tailW,numsB]
   ·simp [wordsW,pairsB]
theorem callWs_cons (o:Sop):∃ ws,callWs o=callW o.ck :: ws:=by
 unfold callWs
 split
 ·exact ⟨_,rfl⟩
 ·split
  ·exact ⟨_,rfl⟩
  ·split
   ·exact ⟨_,rfl⟩
   ·exact ⟨_,rfl⟩
theorem words_cons (w:Bs) {ws:List Bs} (h:ws ≠ []):wordsW (w :: ws)=w ++ 32 :: wordsW ws:=by
 cases ws with
 | nil=>exact absurd rfl h
 | cons v ws=>simp [wordsW,tailW_cons]
theorem lineB_words (o:Sop):lineB o=wordsW (opWs o):=by
 unfold lineB opWs
 split
 ·obtain ⟨ws,hws⟩:=callWs_cons o
  rw [callB_words,words_cons _ (by simp),words_cons _ (by rw [hws];simp)]
  simp [numsB,tailW]
 ·simp [wordsW,numsB]
theorem bare_pass {w:Bs} (h:Bare w):Pass false w false:=h.pass false
theorem callW_bare (k:Int):Bare (callW k):=by
 unfold callW
 split
 ·intro c hc;revert c;decide
 ·split
  ·intro c hc;revert c;decide
  ·split
   ·intro c hc;revert c;decide
   ·split <;> (intro c hc;revert c;decide)
theorem next_cons {w:Bs} (h:Pass false w false) (ws:List Bs):nextW (wordsW (w :: ws))=(w,wordsW ws):=nextW_words h ws
theorem next_last {w:Bs} (h:Pass false w false):nextW (wordsW [w])=(w,[]):=nextW_words h []
theorem size_zero {s:ByteArray} (h:s.size=0):s=⟨#[]⟩:=by
 cases s with | mk d=>simp only [ByteArray.size] at h;congr 1;exact Array.size_eq_zero_iff.1 h
theorem isEmpty_nil {α:Type} {l:List α} (h:l.isEmpty=true):l=[]:=List.isEmpty_iff.1 h
/-- The numbers that are written are ints. -/
structure SopI (o:Sop):Prop where
 who:I64 o.who
 id:I64 o.id
 nums:∀ n ∈ o.nums,I64 n
theorem rdCall_back {o:Sop} (h:callOk o=true) (hI:SopI o) (hn:o.nums=[]):rdCall o.kind o.who (wordsW (callWs o))=o:=by
 obtain ⟨kind,who,ck,id,text,ev,nums⟩:=o
 obtain ⟨i1,i2,i3⟩:=hI
 simp only at i1 i2 i3 hn
 subst hn
 unfold callOk callNm at h
 unfold rdCall callWs
 simp only at h ⊢
 by_cases c1:ck=1
 ·subst c1
  simp only [if_true,Bool.and_eq_true,decide_eq_true_eq] at h
  obtain ⟨⟨rfl,h2⟩,h3⟩:=h
  obtain rfl:=isEmpty_nil h2
  simp only [if_true]
  rw [next_cons (bare_pass (callW_bare 1))]
  simp only
  rw [kindOf_call (by decide) (by decide),if_pos rfl,next_last (quote_pass _)]
  simp only
  rw [unqV_lb]
 ·rw [if_neg c1,if_neg c1] at h
  rw [if_neg c1]
  by_cases c2:ck=2
  ·subst c2
   simp only [if_true,Bool.and_eq_true] at h
   obtain ⟨h2,h3⟩:=h
   obtain rfl:=isEmpty_nil h2
   simp only [if_true]
   rw [next_cons (bare_pass (callW_bare 2))]
   simp only
   rw [kindOf_call (by decide) (by decide),if_neg (by decide),if_pos rfl,next_cons (itoa_pass id)]
   simp only
   rw [next_last (quote_pass _)]
   simp only
   rw [unqV_lb,atoiN_itoa id i2.1 i2.2]
  ·rw [if_neg c2,if_neg c2] at h
   rw [if_neg c2]
   by_cases c3:ck=3
   ·subst c3
    simp only [if_true,Bool.and_eq_true,decide_eq_true_eq] at h
    obtain ⟨⟨h1,h2⟩,h3⟩:=h
    obtain rfl:=isEmpty_nil h2
    obtain rfl:=size_zero h1
    simp only [if_true]
    rw [next_cons (bare_pass (callW_bare 3))]
    simp only
    rw [kindOf_call (by decide) (by decide),if_neg (by decide),if_neg (by decide),if_pos rfl,next_last (itoa_pass id)]
    simp only
    rw [atoiN_itoa id i2.1 i2.2]
   ·rw [if_neg c3,if_neg c3] at h
    rw [if_neg c3]
    by_cases c4:ck=4
    ·subst c4
     simp only [if_true,Bool.and_eq_true,decide_eq_true_eq] at h
     obtain ⟨⟨rfl,h1⟩,h3⟩:=h
     obtain rfl:=size_zero h1
     rw [next_cons (bare_pass (callW_bare 4))]
     simp only
     rw [kindOf_call (by decide) (by decide),if_neg (by decide),if_neg (by decide),if_neg (by decide),if_pos rfl,readA_pairs h3]
    ·rw [if_neg c4] at h
     simp at h
theorem rdOp_back {o:Sop} (h:opOk o=true) (hI:SopI o):rdOp (nextW (lineB o)).1 (nextW (lineB o)).2=o:=by
 rw [lineB_words]
 unfold opOk at h
 unfold opWs
 by_cases k1:o.kind=1
 ·unfold opNm at h
  rw [if_pos k1,if_pos k1] at h
  simp only [Bool.and_eq_true,decide_eq_true_eq] at h
  obtain ⟨h1,⟨h2,h3⟩,h4⟩:=h
  rw [if_pos k1,next_cons (bare_pass (opW_bare _))]
  simp only
  unfold rdOp
  have hk:kindOfW opW 7 (opW o.kind)=1:=by rw [k1];decide
  simp only [hk,if_true]
  rw [next_cons (itoa_pass _)]
  simp only
  rw [atoiN_itoa _ hI.who.1 hI.who.2]
  have:=rdCall_back h4 hI (isEmpty_nil h1)
  rw [k1] at this
  exact this
 ·rw [if_neg k1,next_cons (bare_pass (opW_bare _))]
  rw [if_neg k1] at h
  unfold opNm at h
  rw [if_neg k1] at h
  simp only
  have hk7:1<=o.kind/\o.kind<=7/\o.who=0/\callNo o=true:=by
   rw [Bool.and_eq_true] at h
   obtain ⟨ha,hb⟩:=h
   have hw:o.who=0/\callNo o=true:=by
    split at ha
    ·simp only [Bool.and_eq_true,decide_eq_true_eq] at ha;exact ha
    ·simp only [Bool.and_eq_true,decide_eq_true_eq] at ha;exact ⟨ha.1.1,ha.1.2⟩
   refine ⟨?_, ?_,hw.1,hw.2⟩
   ·split at hb
    ·omega
    ·split at hb
     ·omega
     ·simp only [decide_eq_true_eq] at hb;omega
   ·split at hb
    ·omega
    ·split at hb
     ·omega
     ·simp only [decide_eq_true_eq] at hb;omega
  obtain ⟨a1,a2,a3,a4⟩:=hk7
  unfold rdOp
  have hk:=kindOf_op a1 a2
  simp only [hk]
  rw [if_neg k1,readA_nums hI.nums]
  unfold callNo at a4
  simp only [Bool.and_eq_true,decide_eq_true_eq] at a4
  obtain ⟨⟨⟨b1,b2⟩,b3⟩,b4⟩:=a4
  obtain ⟨kind,who,ck,id,text,ev,nums⟩:=o
  simp only at *
  subst a3 b1 b2
  obtain rfl:=size_zero b3
  obtain rfl:=isEmpty_nil b4
  rfl
/-- No line end. -/
def NoEnd (l:Bs):Prop:=∀ c ∈ l,c ≠ 10
theorem NoEnd.app {a b:Bs} (ha:NoEnd a) (hb:NoEnd b):NoEnd (a ++ b):=fun c hc=>(List.mem_append.1 hc).elim (ha c) (hb c)
theorem NoEnd.cons {c:UInt8} {a:Bs} (hc:c ≠ 10) (ha:NoEnd a):NoEnd (c :: a):=fun d hd=>by
 rcases List.mem_cons.1 hd with rfl | h
 ·exact hc
 ·exact ha d h
theorem itoa_end (n:Int):NoEnd (Go.Lib.itoa n):=fun c hc=>by
 rcases itoa_char n c hc with rfl | ⟨h1,h2⟩
 ·decide
 ·rintro rfl;revert h1 h2;decide
theorem esc_end (c:UInt8):NoEnd (esc c):=by
 unfold esc
 split
 ·next h =>
  refine NoEnd.cons (by decide) (NoEnd.cons ?_ (fun _ h=>by simp at h))
  rintro rfl;revert h;decide
 ·split
  ·next h =>
   refine NoEnd.cons ?_ (fun _ h=>by simp at h)
   rintro rfl;revert h;decide
  ·have hl:=c.toNat_lt
   have hx:∀ k:Fin 16,hexd k.val ≠ 10:=by decide
   exact NoEnd.cons (by decide) (NoEnd.cons (by decide) (NoEnd.cons (hx ⟨_,by omega⟩) (NoEnd.cons (hx ⟨c.toNat % 16,by omega⟩) (fun _ h=>by simp at h))))
theorem quote_end (l:Bs):NoEnd (quoteL l):=by
 have:NoEnd (escs l):=by
  induction l with
  | nil=>intro c h;simp [escs] at h
  | cons c l ih=>rw [escs_cons];exact (esc_end c).app ih
 exact NoEnd.cons (by decide) (this.app (NoEnd.cons (by decide) (fun _ h=>by simp at h)))
theorem textB_end {k n:Int} {s:ByteArray} (h:chkV k n s=0):NoEnd (Lb (textB k n s)):=by
 rcases textB_ok h with ⟨rfl,_,rfl,e⟩ | ⟨rfl,rfl,e⟩
 ·rw [e];exact itoa_end n
 ·rw [e];exact quote_end _
theorem tailW_end {ws:List Bs} (h:∀ w ∈ ws,NoEnd w):NoEnd (tailW ws):=fun c hc=>by
 obtain ⟨w,hw,hc⟩:=List.mem_flatMap.1 hc
 exact (NoEnd.cons (by decide) (h w hw)) c hc
theorem wordsW_end {ws:List Bs} (h:∀ w ∈ ws,NoEnd w):NoEnd (wordsW ws):=by
 cases ws with
 | nil=>intro c h;simp [wordsW] at h
 | cons w ws=>exact (h w (by simp)).app (tailW_end fun v hv=>h v (by simp [hv]))
theorem opW_end (k:Int):NoEnd (opW k):=by
 unfold opW
 split
 ·intro c hc;revert c;decide
 ·split
  ·intro c hc;revert c;decide
  ·split
   ·intro c hc;revert c;decide
   ·split
    ·intro c hc;revert c;decide
    ·split
     ·intro c hc;revert c;decide
     ·split
      ·intro c hc;revert c;decide
      ·split <;> (intro c hc;revert c;decide)
theorem callW_end (k:Int):NoEnd (callW k):=by
 unfold callW
 split
 ·intro c hc;revert c;decide
 ·split
  ·intro c hc;revert c;decide
  ·split
   ·intro c hc;revert c;decide
   ·split <;> (intro c hc;revert c;decide)
theorem pairW_end {p:Pq} (h:pairOk p=true):NoEnd (pairW p):=by
 unfold pairOk at h
 rw [Bool.and_eq_true,decide_eq_true_eq] at h
 exact NoEnd.app (fun c hc=>(name_char h.1 c hc).2.2.2.2) (NoEnd.cons (by decide) (textB_end h.2))
theorem lineB_end {o:Sop} (h:opOk o=true):NoEnd (lineB o):=by
 rw [lineB_words]
 refine wordsW_end fun w hw=>?_
 unfold opWs at hw
 split at hw
 ·next k1 =>
  unfold opOk at h
  rw [if_pos k1] at h
  simp only [Bool.and_eq_true] at h
  have hc:=h.2.2
  rcases List.mem_cons.1 hw with rfl | hw
  ·exact opW_end _
  ·rcases List.mem_cons.1 hw with rfl | hw
   ·exact itoa_end _
   ·unfold callWs at hw
    unfold callOk at hc
    split at hw
    ·simp only [List.mem_cons,List.not_mem_nil,or_false] at hw
     rcases hw with rfl | rfl
     ·exact callW_end _
     ·exact quote_end _
    ·split at hw
     ·simp only [List.mem_cons,List.not_mem_nil,or_false] at hw
      rcases hw with rfl | rfl | rfl
      ·exact callW_end _
      ·exact itoa_end _
      ·exact quote_end _
     ·split at hw
      ·simp only [List.mem_cons,List.not_mem_nil,or_false] at hw
       rcases hw with rfl | rfl
       ·exact callW_end _
       ·exact itoa_end _
      ·next c1 c2 c3 =>
       rw [if_neg c1,if_neg c2,if_neg c3] at hc
       rcases List.mem_cons.1 hw with rfl | hw
       ·exact callW_end _
       ·obtain ⟨p,hp,rfl⟩:=List.mem_map.1 hw
        split at hc
        ·rw [Bool.and_eq_true,List.all_eq_true] at hc
         exact pairW_end (hc.2 p hp)
        ·simp at hc
 ·rcases List.mem_cons.1 hw with rfl | hw
  ·exact opW_end _
  ·obtain ⟨n,_,rfl⟩:=List.mem_map.1 hw
   exact itoa_end n
theorem opOk_kind {o:Sop} (h:opOk o=true):1<=o.kind/\o.kind<=7:=by
 unfold opOk at h
 rw [Bool.and_eq_true] at h
 obtain ⟨_,hb⟩:=h
 split at hb
 ·omega
 ·split at hb
  ·omega
  ·split at hb
   ·omega
   ·simp only [decide_eq_true_eq] at hb;omega
theorem lineB_head (o:Sop):∃ ws,opWs o=opW o.kind :: ws:=by
 unfold opWs
 split
 ·exact ⟨_,rfl⟩
 ·exact ⟨_,rfl⟩
theorem lineB_next (o:Sop):(nextW (lineB o)).1=opW o.kind:=by
 obtain ⟨ws,hws⟩:=lineB_head o
 rw [lineB_words,hws,next_cons (bare_pass (opW_bare _))]
end Go.Proofs.YtdgoibnndfibnaaGreatDoor
namespace Go.Proofs.YtdgoibnndfibnaaGreatDoor.Sc
open Go.RowKit
/-- The block b holds the attributes l from off on. -/
def AtsAt (w:World) (b off:Nat) (l:List (ByteArray × Int)):Prop :=
 ∀ (j:Nat) (x:ByteArray × Int),l[j]? = some x->w.cell? ⟨b,off + j * 2,none⟩=some (.string x.1)/\w.cell? ⟨b,off + j * 2 + 1,none⟩=some (.int .i64 x.2)
/-- A slice that begins at p holds the attributes l. -/
def AtsOf (w:World) (p:Option Addr) (l:List (ByteArray × Int)):Prop :=
 0 < l.length->∃ b off,p=some ⟨b,off,none⟩/\b < w.heap.size/\AtsAt w b off l
/-- The block b holds the pairs l from off on. -/
def PrsAt (w:World) (b off:Nat) (l:List (ByteArray × Int × Int × ByteArray)):Prop :=
 ∀ (j:Nat) (x:ByteArray × Int × Int × ByteArray),l[j]? = some x->w.cell? ⟨b,off + j * 4,none⟩=some (.string x.1)/\w.cell? ⟨b,off + j * 4 + 1,none⟩=some (.int .i64 x.2.1)/\w.cell? ⟨b,off + j * 4 + 2,none⟩=some (.int .i64 x.2.2.1)/\w.cell? ⟨b,off + j * 4 + 3,none⟩=some (.string x.2.2.2)
def PrsOf (w:World) (p:Option Addr) (l:List (ByteArray × Int × Int × ByteArray)):Prop :=
 0 < l.length->∃ b off,p=some ⟨b,off,none⟩/\b < w.heap.size/\PrsAt w b off l
theorem AtsAt.below {B:Nat} {w w':World} {b off:Nat} {l:List (ByteArray × Int)} (h:AtsAt w b off l) (hb:Below B w w') (hB:b < B):AtsAt w' b off l:=fun j x hj =>
 ⟨(hb.cell (by exact hB)).trans (h j x hj).1,(hb.cell (by exact hB)).trans (h j x hj).2⟩
theorem PrsAt.below {B:Nat} {w w':World} {b off:Nat} {l:List (ByteArray × Int × Int × ByteArray)} (h:PrsAt w b off l) (hb:Below B w w') (hB:b < B):PrsAt w' b off l:=fun j x hj =>
 ⟨(hb.cell (by exact hB)).trans (h j x hj).1,(hb.cell (by exact hB)).trans (h j x hj).2.1,(hb.cell (by exact hB)).trans (h j x hj).2.2.1,(hb.cell (by exact hB)).trans (h j x hj).2.2.2⟩
theorem AtsOf.below {w w':World} {p:Option Addr} {l:List (ByteArray × Int)} (h:AtsOf w p l) (hb:Below w.heap.size w w'):AtsOf w' p l:=fun h0=>by
 obtain ⟨b,off,rfl,hB,hA⟩:=h h0
 exact ⟨b,off,rfl,Nat.lt_of_lt_of_le hB hb.size,hA.below hb hB⟩
theorem PrsOf.below {w w':World} {p:Option Addr} {l:List (ByteArray × Int × Int × ByteArray)} (h:PrsOf w p l) (hb:Below w.heap.size w w'):PrsOf w' p l:=fun h0=>by
 obtain ⟨b,off,rfl,hB,hA⟩:=h h0
 exact ⟨b,off,rfl,Nat.lt_of_lt_of_le hB hb.size,hA.below hb hB⟩
theorem AtsOf.nil (w:World) (p:Option Addr):AtsOf w p []:=fun h=>absurd h (by simp)
theorem PrsOf.nil (w:World) (p:Option Addr):PrsOf w p []:=fun h=>absurd h (by simp)
theorem get_at {α:Type} {l:List α} {k:Nat} (h:k < l.length):∃ x,l[k]? = some x/\l.drop k=x :: l.drop (k + 1):=⟨l[k],List.getElem?_eq_getElem h,List.drop_eq_getElem_cons h⟩
/-- The kind of the first attribute of the name; 0: none. -/
def kindOf:List (ByteArray × Int)->ByteArray->Int
 | [],_=>0
 | x :: r,s=>if x.1.toList == s.toList then x.2 else kindOf r s
theorem kind_yes {l:List (ByteArray × Int)} {s:ByteArray} {k:Nat} {x:ByteArray × Int} (hk:kindOf l s=kindOf (l.drop k) s) (hd:l.drop k=x :: l.drop (k + 1)) (h:(x.1.toList == s.toList)=true):kindOf l s=x.2:=by
 rw [hk,hd];unfold kindOf;rw [if_pos h]
theorem kind_no {l:List (ByteArray × Int)} {s:ByteArray} {k:Nat} {x:ByteArray × Int} (hk:kindOf l s=kindOf (l.drop k) s) (hd:l.drop k=x :: l.drop (k + 1)) (h:(x.1.toList == s.toList)=false):kindOf l s=kindOf (l.drop (k + 1)) s:=by
 rw [hk,hd];conv=>lhs;unfold kindOf;rw [if_neg (by simp [h])]
theorem kind_end {l:List (ByteArray × Int)} {s:ByteArray} {k:Nat} (hk:kindOf l s=kindOf (l.drop k) s) (h:¬ k < l.length):kindOf l s=0:=by
 rw [hk,List.drop_of_length_le (by omega)];rfl
/-- The schema at b holds the attributes l. -/
def SchAt (w:World) (b:Nat) (l:List (ByteArray × Int)):Prop :=
 b < w.heap.size/\∃ p cap,w.cell? ⟨b,0,none⟩=some (.slice p l.length cap)/\AtsOf w p l/\(p=none->l.length=0/\cap=0)
theorem SchAt.below {w w':World} {b:Nat} {l:List (ByteArray × Int)} (h:SchAt w b l) (hb:Below w.heap.size w w'):SchAt w' b l:=by
 obtain ⟨h0,p,cap,hc,hA,hp⟩:=h
 exact ⟨Nat.lt_of_lt_of_le h0 hb.size,p,cap,(hb.cell (by exact h0)).trans hc,hA.below hb,hp⟩
set_option maxHeartbeats 1000000 in
theorem refKind_any (p:Option Addr) (cap:Nat) (l:List (ByteArray × Int)) (s:ByteArray) (w:World) (hm:l.length<=140737488355328) (hA:AtsOf w p l) :
  Calls Tryz.prog 61 #[.slice p l.length cap,.string s] w fun e w'=>e=.returned (.int .i64 (kindOf l s))/\Below w.heap.size w w':=by
 have HA:=hide hA
 clear hA
 go_enter Tryz.func61,Tryz.ntmps61
 go_wp2
 go_loopw [5] (fun i wr=>∃ k:Nat,k<=l.length/\i=.int .i64 k/\Below w.heap.size w wr/\kindOf l s=kindOf (l.drop k) s) (fun i _=>l.length - (intOf i).toNat)
 case atStart=>exact ⟨0,by omega,rfl,Below.refl _ _,by simp⟩
 case round =>
  obtain ⟨k,hk,rfl,hbel,heq⟩:=hrel
  have Heq:=hide heq
  clear heq
  by_cases hlt:k < l.length
  ·obtain ⟨bb,off,rfl,hbb,hAt⟩:=uh HA (by omega)
   obtain ⟨x,hx,hd⟩:=get_at hlt
   have Hd:=hide hd
   clear hd
   have ki0:(0:Int)<=(k:Int):=by omega
   have ki1:(k:Int) < (l.length:Int):=by omega
   obtain ⟨g0,g1⟩:=hAt.below hbel hbb k x hx
   have Hx:=hide hx
   clear hx
   cases hq:(x.1.toList == s.toList) with
   | true =>
    have Hy:=hide (kind_yes (uh Heq) (uh Hd) hq)
    go_wp2
    go_ret
    exact ⟨ret_int (uh Hy).symm,hbel⟩
   | false =>
    have Hy:=hide (kind_no (uh Heq) (uh Hd) hq)
    go_wp2
    go_roundw
    case rel=>exact ⟨k + 1,by omega,by go_num,hbel,uh Hy⟩
    case measure=>simp [intOf];omega
  ·obtain rfl:k=l.length:=by omega
   have Hy:=hide (kind_end (uh Heq) hlt)
   go_wp2
   go_ret
   exact ⟨ret_int (uh Hy).symm,hbel⟩
def nmA (x:ByteArray × Int):List UInt8:=x.1.toList
def atOk (x:ByteArray × Int):Bool:=nameOk x.1 && (x.2 == 1 || x.2 == 2)
end Go.Proofs.YtdgoibnndfibnaaGreatDoor.Sc

/- The document's reads of any line. -/
import Derived.Test.YtdgoibnndfibnaaGreatDoorRS60
import Derived.Test.YtdgoibnndfibnaaGreatDoorRZaq
import Derived.Test.YtdgoibnndfibnaaGreatDoorRZar
import Derived.Test.YtdgoibnndfibnaaGreatDoorRZav
namespace Go.Proofs.YtdgoibnndfibnaaGreatDoor
open Go.RowKit Go.Sort
theorem map_one {x:ByteArray} {rest:List ByteArray} {v:Bs} {r:List Bs} (h:(x :: rest).map Lb=v :: r):Lb x=v/\rest.map Lb=r:=by
 rw [List.map_cons] at h
 injection h with h1 h2
 exact ⟨h1,h2⟩
theorem map_two {rest:List ByteArray} {a b:Bs} {r:List Bs} (h:rest.map Lb=a :: b :: r):∃ a' b' args,rest=a' :: b' :: args/\Lb b'=b:=by
 match rest,h with
 | [],h=>cases h
 | [_],h=>rw [List.map_cons,List.map_nil] at h;injection h with _ h2;cases h2
 | a' :: b' :: args,h =>
  rw [List.map_cons,List.map_cons] at h
  injection h with _ h2
  injection h2 with h3 _
  exact ⟨a',b',args,rfl,h3⟩
/-- Whatever the line: what the document reads it as. -/
theorem refReads_any (s:ByteArray) (w:World) (hz:s.size<=1048576) :
  Calls Tryz.prog 45 #[.string s] w fun e w'=>(∃ u:Ou,e=.returned u.val/\OpOwn w.heap.size w' u (rfOp (Lb s)))/\Below w.heap.size w w':=by
 match hc:cutL (Lb s) with
 | []=>exact reads_no s w hz fun x rest h=>by rw [hc] at h;cases h
 | v :: r =>
  by_cases hv:v=wCall
  ·match r,hc with
   | [],hc =>
    exact reads_short s w hz fun x rest h=>by
     obtain ⟨h1,h2⟩:=map_one (h.trans hc)
     refine ⟨h1.trans hv, ?_⟩
     have:=congrArg List.length h2
     rw [List.length_map] at this
     simp at this
     simp [this]
   | [_],hc =>
    exact reads_short s w hz fun x rest h=>by
     obtain ⟨h1,h2⟩:=map_one (h.trans hc)
     refine ⟨h1.trans hv, ?_⟩
     have:=congrArg List.length h2
     rw [List.length_map] at this
     simp at this
     omega
   | a :: b :: r,hc =>
    have key:∀ (x:ByteArray) (rest:List ByteArray),(x :: rest).map Lb=cutL (Lb s)->Lb x=wCall/\∃ a' b' args,rest=a' :: b' :: args/\Lb b'=b:=fun x rest h=>by
     obtain ⟨h1,h2⟩:=map_one (h.trans hc)
     exact ⟨h1.trans hv,map_two h2⟩
    have put:∀ {p:Bs->Prop},p b->∀ (x:ByteArray) (rest:List ByteArray),(x :: rest).map Lb=cutL (Lb s)->Lb x=wCall/\∃ a' b' args,rest=a' :: b' :: args/\p (Lb b'):=fun hp x rest h=>by
     obtain ⟨h1,a',b',args,h2,h3⟩:=key x rest h
     exact ⟨h1,a',b',args,h2,by rw [h3];exact hp⟩
    by_cases h1:b=wSub
    ·exact reads_c1 s w hz (put (p:=fun c=>c=wSub) h1)
    by_cases h2:b=wReplace
    ·exact reads_c2 s w hz (put (p:=fun c=>c=wReplace) h2)
    by_cases h3:b=wUnsub
    ·exact reads_c3 s w hz (put (p:=fun c=>c=wUnsub) h3)
    by_cases h4:b=wMatch
    ·exact reads_c4 s w hz (put (p:=fun c=>c=wMatch) h4)
    exact reads_c0 s w hz (put (p:=fun c=>c ≠ wSub/\c ≠ wReplace/\c ≠ wUnsub/\c ≠ wMatch) ⟨h1,h2,h3,h4⟩)
  ·exact reads_no s w hz fun x rest h=>by
    obtain ⟨h1,_⟩:=map_one (h.trans hc)
    rw [h1]
    exact hv
end Go.Proofs.YtdgoibnndfibnaaGreatDoor
namespace Go.Proofs.YtdgoibnndfibnaaGreatDoor
open Go.RowKit Go.Sort
/-- The limits that the first line may be of. -/
def cfgR (line:Bs):Cfg:=match (cutL line).tail.map numR with
 | [a,b,c,d,e,f,g,h]=>⟨a,b,c,d,e,f,g,h⟩
 | _=>⟨0,0,0,0,0,0,0,0⟩
theorem cfgR_I (line:Bs):∀ n ∈ (cfgR line).l,I64 n:=by
 unfold cfgR
 split
 ·next a b c d e f g h heq =>
  show ∀ n ∈ [a,b,c,d,e,f,g,h],I64 n
  rw [<- heq]
  intro n hn
  obtain ⟨v,_,rfl⟩:=List.mem_map.1 hn
  exact numR_I v
 ·intro n hn
  simp [Cfg.l] at hn
  subst hn
  exact I64_0
theorem cfg_cut (c:Cfg):cutL (cfgB c)=wConfig :: c.l.map Go.Lib.itoa:=by
 have e:cfgB c=wordsW (wConfig :: c.l.map Go.Lib.itoa):=rfl
 rw [e]
 refine cutL_words ?_
 intro v hv
 rcases List.mem_cons.1 hv with rfl | hv
 ·exact Bare.passC (by intro c hc;revert c;decide) false
 ·obtain ⟨n,_,rfl⟩:=List.mem_map.1 hv
  exact itoa_passC n
theorem cfgR_back {c:Cfg} (h:∀ n ∈ c.l,I64 n):cfgR (cfgB c)=c:=by
 unfold cfgR
 rw [cfg_cut,List.tail_cons,nums_back h]
 rfl
theorem cfg_agree (line:Bs):(cfgB (cfgR line)=line ↔ cfgB (rdCfg (nextW line).2)=line)/\(cfgB (cfgR line)=line->cfgR line=rdCfg (nextW line).2):=by
 have h1:cfgB (cfgR line)=line->rdCfg (nextW line).2=cfgR line:=fun h=>by
  have:=rdCfg_back (cfgR_I line)
  rw [h] at this
  exact this
 have h2:cfgB (rdCfg (nextW line).2)=line->cfgR line=rdCfg (nextW line).2:=fun h=>by
  have:=cfgR_back (rdCfg_I (nextW line).2)
  rw [h] at this
  exact this
 exact ⟨⟨fun h=>by rw [h1 h];exact h,fun h=>by rw [h2 h];exact h⟩,fun h=>(h1 h).symm⟩
theorem addS_cfg (s:Scr) (line:Bs):addS s 1 line=if cfgB (cfgR line)=line then some ⟨cfgR line,s.attrs,s.ops⟩ else none:=by
 unfold addS
 rw [if_pos rfl]
 obtain ⟨h1,h2⟩:=cfg_agree line
 by_cases h:cfgB (cfgR line)=line
 ·rw [if_pos h,if_pos (h1.1 h),h2 h]
 ·rw [if_neg h,if_neg (fun e=>h (h1.2 e))]
/-- The attribute that a line may be of. -/
def atR (line:Bs):ByteArray × Int:=(⟨((cutL line).getD 1 []).toArray⟩,if (cutL line).length=3/\(cutL line).getD 2 []=wInt then 1 else 2)
theorem atR_back {a:ByteArray × Int} (h:Sc.atOk a=true):atR (attrB a)=a:=by
 obtain ⟨h1,h2⟩:=atOk_parts h
 have hb:Bare (Lb a.1):=fun c hc=>by
  obtain ⟨x,y,z,_⟩:=name_char h1 c hc
  exact ⟨x,y,z⟩
 have hk:Bare (kindW a.2):=by rcases h2 with e | e <;> rw [e] <;> (intro c hc;revert c;decide)
 have e:attrB a=wordsW [wAttr,Lb a.1,kindW a.2]:=by simp [attrB,tailW,wordsW]
 have hc:cutL (attrB a)=[wAttr,Lb a.1,kindW a.2]:=by
  rw [e]
  refine cutL_words ?_
  intro v hv
  simp only [List.mem_cons,List.not_mem_nil,or_false] at hv
  rcases hv with rfl | rfl | rfl
  ·exact Bare.passC (by intro c hc;revert c;decide) false
  ·exact hb.passC false
  ·exact hk.passC false
 obtain ⟨x,k⟩:=a
 unfold atR
 rw [hc]
 simp only [List.getD_cons_succ,List.getD_cons_zero,List.length_cons,List.length_nil]
 refine Prod.ext (by simp [Lb]) ?_
 rcases h2 with e | e <;> simp only at e <;> subst e
 ·show (if True/\kindW 1=wInt then (1:Int) else 2)=1
  decide
 ·show (if True/\kindW 2=wInt then (1:Int) else 2)=2
  decide
theorem attr_first {line:Bs} (h:begA line=true):(nextW line).1=wAttr:=by
 have h1:line.take 5=[97,116,116,114,32]:=by simpa [begA] using h
 have h2:line=wAttr ++ (32 :: line.drop 5):=by
  have:=(List.take_append_drop 5 line).symm
  rw [h1] at this
  exact this
 have hw:Pass false wAttr false:=bare_pass (by intro c hc;revert c;decide)
 unfold nextW
 rw [h2,hw,wEnd_cons (by decide),if_neg (by decide),if_pos ⟨rfl,rfl⟩]
 rfl
theorem attr_beg {line:Bs} {a:ByteArray × Int} (h:attrB a=line):begA line=true:=by
 rw [<- h]
 unfold begA attrB wAttr
 simp
theorem op_first (o:Sop):(nextW (lineB o)).1 ≠ wAttr:=by
 have e:∃ r,lineB o=opW o.kind ++ tailW r:=by
  rw [lineB_words]
  unfold opWs
  split
  ·exact ⟨_,rfl⟩
  ·exact ⟨_,rfl⟩
 obtain ⟨r,e⟩:=e
 rw [e,nextW_words (bare_pass (opW_bare _))]
 show opW o.kind ≠ wAttr
 unfold opW
 repeat' split
 all_goals decide
theorem AtsOk.last {l:List (ByteArray × Int)} {a:ByteArray × Int} (h:AtsOk (l ++ [a])):Sc.atOk a=true:=by
 have:=h.2.1
 rw [List.all_append,Bool.and_eq_true] at this
 simpa using this.2
open Classical in
/-- A line behind the first, the document's way. -/
theorem addS_doc (s:Scr) (n:Nat) (line:Bs) (hn:n ≠ 1):addS s n line=if begA line=true/\s.ops.length=0 then (if AtsOk (s.attrs ++ [atR line])/\attrB (atR line)=line then some ⟨s.cfg,s.attrs ++ [atR line],s.ops⟩ else none) else (if s.ops.length + 1<=4096/\opOk (rfOp line)=true/\lineB (rfOp line)=line then some ⟨s.cfg,s.attrs,s.ops ++ [rfOp line]⟩ else none):=by
 by_cases hw:(nextW line).1=wAttr
 ·have hop:¬ (s.ops.length + 1<=4096/\opOk (rfOp line)=true/\lineB (rfOp line)=line):=fun h=>op_first (rfOp line) (by rw [h.2.2];exact hw)
  unfold addS
  rw [if_neg hn,if_pos hw]
  by_cases hb:begA line=true/\s.ops.length=0
  ·rw [if_pos hb]
   have h1:AtsOk (s.attrs ++ [atR line])/\attrB (atR line)=line->rdAttr (nextW line).2=atR line:=fun h=>by
    have:=(rdAttr_back h.1.last).2
    rw [h.2] at this
    exact this
   have h2:AtsOk (s.attrs ++ [rdAttr (nextW line).2])/\attrB (rdAttr (nextW line).2)=line->atR line=rdAttr (nextW line).2:=fun h=>by
    have:=atR_back h.1.last
    rw [h.2] at this
    exact this
   by_cases h:AtsOk (s.attrs ++ [atR line])/\attrB (atR line)=line
   ·rw [if_pos h,h1 h,if_pos ⟨hb.2,h⟩]
   ·rw [if_neg h,if_neg]
    rintro ⟨_,h3⟩
    exact h (by rw [h2 h3];exact h3)
  ·rw [if_neg hb,if_neg hop,if_neg]
   rintro ⟨h1,_,h3⟩
   exact hb ⟨attr_beg h3,h1⟩
 ·rw [if_neg (fun hb=>hw (attr_first hb.1))]
  exact addS_op hn hw
end Go.Proofs.YtdgoibnndfibnaaGreatDoor
namespace Go.Proofs.YtdgoibnndfibnaaGreatDoor
open Go.RowKit Go.Sort
theorem cut10_noend:∀ {l:Bs},(∀ c ∈ l,c ≠ 10)->cut10 l=none
 | [],_=>rfl
 | c :: r,h=>by
  unfold cut10
  rw [if_neg (h c (by simp)),cut10_noend (fun d hd=>h d (by simp [hd]))]
  rfl
/-- No line end from k up to j. -/
def NoE (l:Bs) (k j:Nat):Prop:=∀ i c,k<=i->i < j->l[i]? = some c->c ≠ 10
theorem NoE.start (l:Bs) (k:Nat):NoE l k k:=fun i c h1 h2 _=>by omega
theorem NoE.step {l:Bs} {k j:Nat} {c:UInt8} (h:NoE l k j) (hc:l[j]? = some c) (hne:c ≠ 10):NoE l k (j + 1):=fun i d h1 h2 h3=>by
 by_cases e:i=j
 ·subst e
  rw [hc] at h3
  injection h3 with h3
  rw [<- h3]
  exact hne
 ·exact h i d h1 (by omega) h3
theorem NoE.line {l:Bs} {k j:Nat} (h:NoE l k j):∀ c ∈ (l.drop k).take (j - k),c ≠ 10:=fun c hc=>by
 obtain ⟨i,hi⟩:=List.mem_iff_getElem?.1 hc
 have hlt:i < j - k:=by
  have:=(List.getElem?_eq_some_iff.1 hi).1
  rw [List.length_take] at this
  omega
 rw [List.getElem?_take_of_lt hlt,List.getElem?_drop] at hi
 exact h (k + i) c (by omega) (by omega) hi
theorem cut10_end {l:Bs} {k j:Nat} (h:NoE l k j) (hj:j=l.length):cut10 (l.drop k)=none:=by
 refine cut10_noend ?_
 have:=h.line
 rwa [List.take_of_length_le (by rw [List.length_drop];omega)] at this
theorem cut10_line {l:Bs} {k j:Nat} (h:NoE l k j) (hk:k<=j) (hj:l[j]? = some 10):cut10 (l.drop k)=some ((l.drop k).take (j - k),l.drop (j + 1)):=by
 have e:l.drop k=(l.drop k).take (j - k) ++ 10 :: l.drop (j + 1):=by
  have h1:=(List.take_append_drop (j - k) (l.drop k)).symm
  rw [List.drop_drop,show k + (j - k)=j by omega] at h1
  obtain ⟨hlt,hc⟩:=List.getElem?_eq_some_iff.1 hj
  rw [List.drop_eq_getElem_cons hlt,hc] at h1
  exact h1
 have:=cut10_at (a:=(l.drop k).take (j - k)) (r:=l.drop (j + 1)) h.line
 rw [<- e] at this
 exact this
end Go.Proofs.YtdgoibnndfibnaaGreatDoor
namespace Go.Proofs.YtdgoibnndfibnaaGreatDoor
open Go.RowKit Go.Sort
set_option maxHeartbeats 400000 in
theorem refCheck_any (k n:Int) (s:ByteArray) (w:World) :
  Calls Tryz.prog 118 #[.agg #[.int .i64 k,.int .i64 n,.string s]] w fun e w'=>e=.returned (.int .i64 (chkV k n s))/\Below w.heap.size w w':=by
 by_cases h1:k=1
 ·subst h1
  go_enter Tryz.func118,Tryz.ntmps118
  go_wp2
  all_goals (go_ret;refine ⟨ret_int ?_,(Below.refl _ _).alloc (Nat.le_refl _) _⟩)
  ·exact (chk_yes1 rfl (by assumption) (by assumption) (by assumption)).symm
  ·exact (chk_no1 rfl (by rw [<- empty_iff];simp [*])).symm
  ·exact (chk_no1 rfl (by omega)).symm
  ·exact (chk_no1 rfl (by omega)).symm
 ·by_cases h2:k=2/\n=0
  ·obtain ⟨rfl,rfl⟩:=h2
   go_enter Tryz.func118,Tryz.ntmps118
   go_wp2
   all_goals (go_ret;refine ⟨ret_int ?_,(Below.refl _ _).alloc (Nat.le_refl _) _⟩)
   ·exact (chk_yes2 rfl rfl (by assumption)).symm
   ·exact (chk_no2 rfl (by omega)).symm
  ·have hn:chkV k n s=1:=chk_no2 (by simpa using h1) (by omega)
   have Hn:Hid (chkV k n s=1):=hn
   clear hn
   by_cases h3:k=2
   ·have h4:n ≠ 0:=fun h=>h2 ⟨h3,h⟩
    subst h3
    clear h2
    go_enter Tryz.func118,Tryz.ntmps118
    go_wp2
    all_goals (go_ret;exact ⟨ret_int Hn.out.symm,(Below.refl _ _).alloc (Nat.le_refl _) _⟩)
   ·clear h2
    go_enter Tryz.func118,Tryz.ntmps118
    go_wp2
    all_goals (go_ret;exact ⟨ret_int Hn.out.symm,(Below.refl _ _).alloc (Nat.le_refl _) _⟩)
set_option maxHeartbeats 400000 in
theorem refText_bad (k n:Int) (s:ByteArray) (w:World) (h:chkV k n s=1) :
  Calls Tryz.prog 95 #[.agg #[.int .i64 k,.int .i64 n,.string s]] w fun e w'=>e=.returned (.tuple #[.string (textB k n s),.int .i64 (chkV k n s)])/\Below w.heap.size w w':=by
 have ht:textB k n s=⟨#[]⟩:=by unfold textB;rw [if_neg (by omega)]
 have hc:=refCheck_any k n s
 rw [ht,h]
 rw [h] at hc
 clear ht h
 go_enter Tryz.func95,Tryz.ntmps95
 go_wp2_with (go_at_call 118;refine (hc _).mono ?_;rintro e w' ⟨rfl,hb⟩)
 go_ret2
 exact ⟨rfl,below_sub ((Below.refl _ _).alloc (Nat.le_refl _) _) hb⟩
set_option maxHeartbeats 400000 in
theorem refText_word (s:ByteArray) (w:World) (h:s.size<=64) :
  Calls Tryz.prog 95 #[.agg #[.int .i64 2,.int .i64 0,.string s]] w fun e w'=>e=.returned (.tuple #[.string (textB 2 0 s),.int .i64 (chkV 2 0 s)])/\Below w.heap.size w w':=by
 have h0:chkV 2 0 s=0:=chk_yes2 rfl rfl (by omega)
 have ht:textB 2 0 s=quoteB s:=by unfold textB;rw [if_pos h0,if_pos rfl]
 have hc:=refCheck_any 2 0 s
 rw [ht,h0]
 rw [h0] at hc
 clear ht h0
 go_enter Tryz.func95,Tryz.ntmps95
 go_wp2_with (first
  | (go_at_call 118;refine (hc _).mono ?_;rintro e w1 ⟨rfl,hb⟩;obtain ⟨hcell,hfr⟩:=bcell hb;simp at hcell)
  | (go_at_call 67;refine (refQuote_any s _ (by omega)).mono ?_;rintro e w2 ⟨rfl,hb2⟩))
 go_ret2
 exact ⟨rfl,below_sub (below_sub ((Below.refl _ _).alloc (Nat.le_refl _) _) hb) hb2⟩
set_option maxHeartbeats 400000 in
theorem refText_int (n:Int) (s:ByteArray) (w:World) (h1:-2147483648<=n) (h2:n<=2147483647) (hs:s.size=0) :
  Calls Tryz.prog 95 #[.agg #[.int .i64 1,.int .i64 n,.string s]] w fun e w'=>e=.returned (.tuple #[.string (textB 1 n s),.int .i64 (chkV 1 n s)])/\Below w.heap.size w w':=by
 have h0:chkV 1 n s=0:=chk_yes1 rfl h1 h2 ((empty_iff s).2 hs)
 have ht:textB 1 n s=itoaB n:=by unfold textB;rw [if_pos h0,if_neg (by decide)]
 have hc:=refCheck_any 1 n s
 rw [ht,h0]
 rw [h0] at hc
 clear ht h0 hs
 go_enter Tryz.func95,Tryz.ntmps95
 go_wp2_with (first
  | (go_at_call 118;refine (hc _).mono ?_;rintro e w1 ⟨rfl,hb⟩;obtain ⟨hcell,hfr⟩:=bcell hb;simp at hcell)
  | (go_at_call 35;refine (decimal_any n _ (by omega) (by omega)).mono ?_;rintro e w2 ⟨rfl,hb2⟩))
 go_ret2
 exact ⟨rfl,below_sub (below_sub ((Below.refl _ _).alloc (Nat.le_refl _) _) hb) hb2⟩
theorem refText_any (k n:Int) (s:ByteArray) (w:World) :
  Calls Tryz.prog 95 #[.agg #[.int .i64 k,.int .i64 n,.string s]] w fun e w'=>e=.returned (.tuple #[.string (textB k n s),.int .i64 (chkV k n s)])/\Below w.heap.size w w':=by
 rcases chk_01 k n s with h | h
 ·rcases chk_range h with ⟨rfl,h1,h2,h3⟩ | ⟨rfl,rfl,h3⟩
  ·exact refText_int n s w h1 h2 h3
  ·exact refText_word s w h3
 ·exact refText_bad k n s w h
theorem ret_strL {A:ByteArray} {l:Bs} (h:Lb A=l):Ending.returned (.string A)=.returned (.string ⟨l.toArray⟩):=by rw [str_eq h]
theorem lb_app (a b:ByteArray):Lb (a ++ b)=Lb a ++ Lb b:=by simp [Lb]
theorem size_lb {A:ByteArray} {l:Bs} (h:Lb A=l):A.size=l.length:=by rw [<- h];exact (bytes_len A).symm
set_option maxHeartbeats 4000000 in
set_option maxRecDepth 100000 in
theorem refNums_any (q:Option Addr) (c:Nat) (l:List Int) (w:World) (hI:∀ n ∈ l,I64 n) (hz:l.length<=1000000000) (hl:SlOf encI 1 w q c l) :
  Calls Tryz.prog 37 #[.slice q l.length c] w fun e w'=>e=.returned (.string ⟨(numsB l).toArray⟩)/\Below w.heap.size w w':=by
 have HL:=hide hl
 have HI:=hide hI
 have a0:(l.length:Int)<=1000000000:=by omega
 clear hl hI
 go_enter Tryz.func37,Tryz.ntmps37
 go_wp2
 go_loopw [3,4] (fun s i wr=>∃ (k:Nat) (T:ByteArray),k<=l.length/\i=.int .i64 (k:Int)/\s=.string T/\T.size<=k * 22/\Hid (Lb T=numsB (l.take k))/\Hid (Below w.heap.size w wr)) (fun _ i _=>l.length - (intOf i).toNat)
 case atStart=>exact ⟨0,⟨#[]⟩,by omega,rfl,rfl,by simp [ByteArray.size],hide (by simp [numsB_nil,Lb]),hide (Below.refl _ _)⟩
 case round =>
  obtain ⟨k,T,hk,rfl,rfl,hT,HT,HB⟩:=hrel
  by_cases hlt:k < l.length
  ·obtain ⟨x,hx,_⟩:=get_at hlt
   have hix:I64 x:=uh HI x (List.mem_of_getElem? hx)
   obtain ⟨bb,off,hq,hbb,hc⟩:=intsAt ((uh HL).below (uh HB)) hx
   rw [hq]
   have ki0:(0:Int)<=(k:Int):=by omega
   have ki1:(k:Int) < (l.length:Int):=by omega
   obtain ⟨D,hD⟩:∃ D,itoaB x=D:=⟨_,rfl⟩
   have hds:D.size<=21:=by rw [<- hD];exact itoaB_size x hix
   have hdl:Lb D=Go.Lib.itoa x:=by rw [<- hD];exact itoaB_list x
   have hdec:=fun W=>decimal_any x W hix.1 hix.2
   rw [hD] at hdec
   have n1:¬ 9223372036854775807 < T.size + 1:=by omega
   have n2:¬ 9223372036854775807 < T.size + 1 + D.size:=by omega
   have HTK:=hide (numsB_take hx)
   have HDL:=hide hdl
   clear hx hix hD hdl
   go_wp2_with (go_at_call 35;refine (hdec _).mono ?_;rintro e w2 ⟨rfl,b2⟩;have B2:=hide b2;clear b2)
   refine ⟨⟨k + 1,_,by omega,by go_num,rfl, ?_,hide ?_,hide (below_tr (uh HB) ((uh B2).mono (uh HB).size))⟩,by simp [intOf];omega⟩
   ·rw [ByteArray.size_append,ByteArray.size_append];show T.size + 1 + D.size<=_;omega
   ·rw [lb_app,lb_app,uh HT,uh HDL,uh HTK];simp [Lb]
  ·have ki1:¬ (k:Int) < (l.length:Int):=by omega
   obtain rfl:k=l.length:=by omega
   go_wp2
   go_ret
   exact ⟨ret_strL (by have:=uh HT;rwa [List.take_length] at this),uh HB⟩
theorem all_take {α:Type} {f:α->Bool} {l:List α} {k:Nat} {x:α} (h:(l.take k).all f=true) (hx:l[k]? = some x) (hf:f x=true):(l.take (k + 1)).all f=true:=by
 rw [List.take_add_one,hx,List.all_append,h];simp [hf]
theorem all_no {α:Type} {f:α->Bool} {l:List α} {k:Nat} {x:α} (hx:l[k]? = some x) (hf:f x=false):l.all f=false:=by
 rw [<- Bool.not_eq_true]
 intro h
 have:=List.all_eq_true.1 h x (List.mem_of_getElem? hx)
 rw [hf] at this
 cases this
set_option maxHeartbeats 4000000 in
set_option maxRecDepth 100000 in
theorem refPairs_any (q:Option Addr) (c:Nat) (l:List Pq) (w:World) (hz:l.length<=1000000000) (hl:SlOf encQ 4 w q c l) :
  Calls Tryz.prog 68 #[.slice q l.length c] w fun e w'=>(∃ A:ByteArray,e=.returned (.tuple #[.string A,.bool (l.all pairOk)])/\(l.all pairOk=true->Lb A=pairsB l)/\A.size<=294000000000)/\Below w.heap.size w w':=by
 have HL:=hide hl
 have a0:(l.length:Int)<=1000000000:=by omega
 clear hl
 go_enter Tryz.func68,Tryz.ntmps68
 go_wp2
 go_loopw [4,5] (fun s i wr=>∃ (k:Nat) (T:ByteArray),k<=l.length/\i=.int .i64 (k:Int)/\s=.string T/\T.size<=k * 294/\Hid (Lb T=pairsB (l.take k))/\Hid ((l.take k).all pairOk=true)/\Hid (Below w.heap.size w wr)) (fun _ i _=>l.length - (intOf i).toNat)
 case atStart=>exact ⟨0,⟨#[]⟩,by omega,rfl,rfl,by simp [ByteArray.size],hide (by simp [pairsB,tailW,Lb]),hide (by simp),hide (Below.refl _ _)⟩
 case round =>
  obtain ⟨k,T,hk,rfl,rfl,hT,HT,HO,HB⟩:=hrel
  by_cases hlt:k < l.length
  ·obtain ⟨p,hp,_⟩:=get_at hlt
   obtain ⟨bb,off,hq,hbb,c0,c1,c2,c3⟩:=pairsAt ((uh HL).below (uh HB)) hp
   rw [hq]
   have ki0:(0:Int)<=(k:Int):=by omega
   have ki1:(k:Int) < (l.length:Int):=by omega
   obtain ⟨D,hD⟩:∃ D,textB p.2.1 p.2.2.1 p.2.2.2=D:=⟨_,rfl⟩
   have htx:=fun W=>refText_any p.2.1 p.2.2.1 p.2.2.2 W
   have hnm:=fun W=>Sc.refName_any p.1 W
   rw [hD] at htx
   rcases chk_01 p.2.1 p.2.2.1 p.2.2.2 with hch | hch
   ·rw [hch] at htx
    cases hno:Sc.nameOk p.1 with
    | false =>
     rw [hno] at hnm
     have HN:=hide (show l.all pairOk=false from all_no hp (by unfold pairOk;rw [hno];rfl))
     clear hp hD hch hno
     go_wp2_with (first
      | (go_at_call 95;refine (htx _).mono ?_;rintro e w2 ⟨rfl,b2⟩;have B2:=hide b2;have d0:=(b2.cell (p:=⟨bb,off + k * 4,none⟩) hbb).trans c0;clear b2)
      | (go_at_call 60;refine (hnm _).mono ?_;rintro e w3 ⟨rfl,rfl⟩))
     go_ret2
     exact ⟨⟨_,by rw [uh HN];rfl,(fun h=>by rw [uh HN] at h;cases h),Nat.zero_le _⟩,below_tr (uh HB) ((uh B2).mono (uh HB).size)⟩
    | true =>
     rw [hno] at hnm
     have hok:pairOk p=true:=by unfold pairOk;rw [hno,hch];rfl
     have hpl:=pairW_len hok
     have hpw:pairW p=Lb p.1 ++ 61 :: Lb D:=by rw [<- hD];rfl
     rw [hpw] at hpl
     simp only [List.length_append,List.length_cons] at hpl
     rw [show (Lb p.1).length=p.1.size from bytes_len _,show (Lb D).length=D.size from bytes_len _] at hpl
     have n1:¬ 9223372036854775807 < T.size + 1:=by omega
     have n2:¬ 9223372036854775807 < T.size + 1 + p.1.size:=by omega
     have n3:¬ 9223372036854775807 < T.size + 1 + p.1.size + 1:=by omega
     have n4:¬ 9223372036854775807 < T.size + 1 + p.1.size + 1 + D.size:=by omega
     have HTK:=hide (pairsB_take hp)
     have HPW:=hide hpw
     have HO2:=hide (all_take (uh HO) hp hok)
     clear hp hD hch hno hok hpw
     go_wp2_with (first
      | (go_at_call 95;refine (htx _).mono ?_;rintro e w2 ⟨rfl,b2⟩;have B2:=hide b2;have d0:=(b2.cell (p:=⟨bb,off + k * 4,none⟩) hbb).trans c0;clear b2)
      | (go_at_call 60;refine (hnm _).mono ?_;rintro e w3 ⟨rfl,rfl⟩))
     refine ⟨⟨k + 1,_,by omega,by go_num,rfl, ?_,hide ?_,HO2,hide (below_tr (uh HB) ((uh B2).mono (uh HB).size))⟩,by simp [intOf];omega⟩
     ·simp only [ByteArray.size_append];show T.size + 1 + p.1.size + 1 + D.size<=_;omega
     ·simp only [lb_app];rw [uh HT,uh HTK,uh HPW];simp [Lb]
   ·rw [hch] at htx
    have HN:=hide (show l.all pairOk=false from all_no hp (by unfold pairOk;rw [hch];simp))
    clear hp hD hch hnm
    go_wp2_with (go_at_call 95;refine (htx _).mono ?_;rintro e w2 ⟨rfl,b2⟩;have B2:=hide b2;clear b2)
    go_ret2
    exact ⟨⟨_,by rw [uh HN];rfl,(fun h=>by rw [uh HN] at h;cases h),Nat.zero_le _⟩,below_tr (uh HB) ((uh B2).mono (uh HB).size)⟩
  ·have ki1:¬ (k:Int) < (l.length:Int):=by omega
   obtain rfl:k=l.length:=by omega
   have HN:=hide (show l.all pairOk=true by have:=uh HO;rwa [List.take_length] at this)
   go_wp2
   go_ret2
   exact ⟨⟨T,by rw [uh HN];rfl,(fun _=>by have:=uh HT;rwa [List.take_length] at this),by omega⟩,uh HB⟩
theorem toList_emp:ByteArray.toList ⟨#[]⟩=[]:=by first | rfl | decide | simp
theorem size_emp (s:ByteArray):(s.toList == [])=decide (s.size=0):=by
 by_cases h:s.size=0
 ·rw [decide_eq_true h]
  obtain rfl:=size_zero h
  rw [toList_emp];rfl
 ·rw [decide_eq_false h,beq_eq_false_iff_ne]
  intro e
  have h2:s=⟨#[]⟩:=ba_ext (e.trans toList_emp.symm)
  exact h (by rw [h2];rfl)
set_option maxHeartbeats 4000000 in
set_option maxRecDepth 100000 in
theorem refNone_any {w:World} {u:Ou} {o:Sop} (hu:OpIn w u o):Calls Tryz.prog 36 #[u.call] w fun e w'=>e=.returned (.bool (callNo o))/\Below w.heap.size w w':=by
 have hE:(((u.ne:Int)) == 0)=o.ev.isEmpty:=by
  rw [hu.ne]
  cases o.ev with
  | nil=>rfl
  | cons a l=>simp;omega
 have hT:=size_emp u.text
 rw [hu.text] at hT
 have hK:(u.ck == 0)=decide (o.ck=0):=by rw [hu.ck];rfl
 have hI:(u.id == 0)=decide (o.id=0):=by rw [hu.id];rfl
 have hT2:=hT
 rw [<- hu.text] at hT2
 have hbx:=fun (V:World)=>V
 clear hT hbx
 have hc:callNo o=((u.ck == 0) && (u.id == 0) && (u.text.toList == []) && ((u.ne:Int) == 0)):=by unfold callNo;rw [hE,hT2,hK,hI,hu.text]
 rw [hc]
 clear hc hE hT2 hK hI hu
 unfold Ou.call
 cases h1:(u.ck == 0) with
 | false =>
  go_enter Tryz.func36,Tryz.ntmps36
  go_wp2
  go_ret
  exact ⟨rfl,(Below.refl _ _).alloc (Nat.le_refl _) _⟩
 | true =>
  cases h2:(u.id == 0) with
  | false =>
   go_enter Tryz.func36,Tryz.ntmps36
   go_wp2
   go_ret
   exact ⟨rfl,(Below.refl _ _).alloc (Nat.le_refl _) _⟩
  | true =>
   cases h3:(u.text.toList == []) with
   | false =>
    go_enter Tryz.func36,Tryz.ntmps36
    go_wp2
    go_ret
    exact ⟨rfl,(Below.refl _ _).alloc (Nat.le_refl _) _⟩
   | true =>
    obtain ⟨b,hb⟩:∃ b,((u.ne:Int) == 0)=b:=⟨_,rfl⟩
    rw [hb]
    go_enter Tryz.func36,Tryz.ntmps36
    go_wp2
    go_ret
    exact ⟨rfl,(Below.refl _ _).alloc (Nat.le_refl _) _⟩
end Go.Proofs.YtdgoibnndfibnaaGreatDoor

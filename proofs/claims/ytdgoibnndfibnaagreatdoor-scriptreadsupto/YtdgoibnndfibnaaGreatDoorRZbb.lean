/- What the rows list of the library's variables gives the walks of the lex layer. -/
import Derived.Test.YtdgoibnndfibnaaGreatDoorRZab
import Derived.ProofKit
import Derived.LaidMore
import Derived.OpenShut
import Derived.Stop.Joined
import Derived.Stop.LaidErr
import Derived.Test.YtdgoibnndfibnaaGreatDoorRZaf
import Derived.Test.YtdgoibnndfibnaaGreatDoorRSBase
import Derived.Deep.Slices
import Derived.Deep.Strs
import Derived.Deep.DeepHandedRow
import Derived.Deep.DeepWitnessRowRef
import Derived.Lib.SmallJoins
import Derived.Lib.LaidTab
import Derived.SizedLaws
import Derived.Test.YtdgoibnndfibnaaGreatDoorRZav
import Derived.Test.YtdgoibnndfibnaaGreatDoorRZba
import Derived.Test.YtdgoibnndfibnaaGreatDoorRScRefNew
import Derived.Test.YtdgoibnndfibnaaGreatDoorRZaz
namespace Go.Proofs.YtdgoibnndfibnaaGreatDoor
open Go.ChangeShapes Go.WideShapes Go.ChangeAt Go.RowKit
theorem Tryz.laidOut:laidOutB Tryz.prog=true:=by kernel_rfl
theorem Tryz.own:ownKnob Tryz.prog.godebug=none:=by kernel_rfl
theorem Tryz.gTab:Tryz.prog.globalNamed "internal/strconv.uint64pow10"=some 1:=by kernel_rfl
theorem Tryz.gTabType:(Tryz.prog.globals[1]?).map (·.type)=some 196:=by kernel_rfl
theorem Tryz.gES:Tryz.prog.globalNamed "strconv.ErrSyntax"=some 2:=by kernel_rfl
theorem Tryz.gESType:(Tryz.prog.globals[2]?).map (·.type)=some 103:=by kernel_rfl
theorem Tryz.gER:Tryz.prog.globalNamed "strconv.ErrRange"=some 3:=by kernel_rfl
theorem Tryz.gERType:(Tryz.prog.globals[3]?).map (·.type)=some 103:=by kernel_rfl
theorem Tryz.cells113:Tryz.prog.cellsOf 113=1:=by kernel_rfl
theorem Tryz.cells196:Tryz.prog.cellsOf 196=20:=by kernel_rfl
theorem Tryz.cells205:Tryz.prog.cellsOf 205=1:=by kernel_rfl
theorem Tryz.cells9:Tryz.prog.cellsOf 9=1:=by kernel_rfl
theorem star:"*" ++ "errors.errorString"="*errors.errorString":=by decide
theorem row203 (u:TypeId) (h:Tryz.prog.typeName? 3 u=some "*errors.errorString"):u=203 :=
 typeName_ptr_named (nm:="errors.errorString") (by rw [star];kernel_rfl) (by kernel_rfl) (by decide) u (by rw [star];exact h)
/-- What every row of the layer lists. -/
def laidAll:List (String × DataW Unit):=[("math/bits.deBruijn32tab",Rows.laid_math_bits_deBruijn32tab),("math/bits.deBruijn64tab",Rows.laid_math_bits_deBruijn64tab),("internal/strconv.uint64pow10",Rows.laid_internal_strconv_uint64pow10),("strconv.ErrRange",Rows.laid_strconv_ErrRange),("strconv.ErrSyntax",Rows.laid_strconv_ErrSyntax)]
theorem tab_data:(Rows.laid_internal_strconv_uint64pow10:DataW Unit)=Lib.tabData .u64 Lib.pow10Tab:=by rfl
theorem G_of_laid {W:World} (h:laidMetH Tryz.prog laidAll W):G W:=by
 rw [MakeChecks.laidMetH_plain _ _ _ (by kernel_rfl)] at h
 have h3:=h.tail.tail
 rw [tab_data] at h3
 have h4:=h3.tail
 have h5:=h4.tail
 obtain ⟨a1,s1,hv1,-,-,-⟩:=laid_sentinel h4 Tryz.gER Tryz.gERType Tryz.underlying103 row203 Tryz.underlying203 Tryz.underlying205 rfl rfl Tryz.underlying9 Tryz.cells205 Tryz.cells9
 obtain ⟨a2,s2,hv2,-,-,-⟩:=laid_sentinel h5 Tryz.gES Tryz.gESType Tryz.underlying103 row203 Tryz.underlying203 Tryz.underlying205 rfl rfl Tryz.underlying9 Tryz.cells205 Tryz.cells9
 exact ⟨Lib.tabIs_of_head Tryz.gTab Tryz.gTabType Tryz.underlying196 Tryz.underlying113 Tryz.cells113 Tryz.cells196 h3,⟨_,_,hv2⟩,⟨_,_,hv1⟩⟩
end Go.Proofs.YtdgoibnndfibnaaGreatDoor
namespace Go.Proofs.YtdgoibnndfibnaaGreatDoor
open Go.ChangeShapes Go.WideShapes Go.ChangeAt Go.RowKit Go.Joins
end Go.Proofs.YtdgoibnndfibnaaGreatDoor
namespace Go.Proofs.YtdgoibnndfibnaaGreatDoor
open Go.ChangeShapes Go.WideShapes Go.ChangeAt Go.RowKit Go.Joins
instance:Inhabited Sop:=⟨⟨0,0,0,0,⟨#[]⟩,[],[]⟩⟩
end Go.Proofs.YtdgoibnndfibnaaGreatDoor
namespace Go.Proofs.YtdgoibnndfibnaaGreatDoor
open Go.RowKit Go.Sort
theorem RowC.mono {B B':Nat} {w:World} {v:Value} {l:Bs} (h:RowC B w v l) (hb:B'<=B):RowC B' w v l:=by
 obtain ⟨g,cap,lo,hi,cur,h1,h2,h3⟩:=h
 exact ⟨g,cap,lo,hi,cur,h1,Nat.le_trans hb h2,h3⟩
theorem of8z {W:World} {b:Nat} {a0 a1 a2 a3 a4 a5 a6 a7:Value} {T:TypeId} (h:W.heap[b]? = some (.cells #[a0,a1,a2,a3,a4,a5,a6,a7] T (0,0))):W.cell? ⟨b,0,none⟩=some a0/\W.cell? ⟨b,1,none⟩=some a1/\W.cell? ⟨b,2,none⟩=some a2/\W.cell? ⟨b,3,none⟩=some a3/\W.cell? ⟨b,4,none⟩=some a4/\W.cell? ⟨b,5,none⟩=some a5/\W.cell? ⟨b,6,none⟩=some a6/\W.cell? ⟨b,7,none⟩=some a7:=by
 refine ⟨?_, ?_, ?_, ?_, ?_, ?_, ?_, ?_⟩ <;> (unfold World.cell?;simp [h])
set_option maxHeartbeats 4000000 in
set_option maxRecDepth 100000 in
theorem refConfig_any (c:Cfg) (w:World) (hI:∀ n ∈ c.l,I64 n) :
  Calls Tryz.prog 30 #[.agg #[.int .i64 c.d,.int .i64 c.c,.int .i64 c.s,.int .i64 c.t,.int .i64 c.h,.int .i64 c.q,.int .i64 c.w,.int .i64 c.u]] w fun e w'=>e=.returned (.string ⟨(cfgB c).toArray⟩)/\Below w.heap.size w w':=by
 obtain ⟨X,HX⟩:∃ X,w.alloc (.cells #[.int .i64 c.d,.int .i64 c.c,.int .i64 c.s,.int .i64 c.t,.int .i64 c.h,.int .i64 c.q,.int .i64 c.w,.int .i64 c.u] 25)=X:=⟨_,rfl⟩
 have bX:Below w.heap.size w X:=by rw [<- HX];exact (Below.refl _ _).alloc (Nat.le_refl _) _
 have hX:X.heap[w.heap.size]? = some (.cells #[.int .i64 c.d,.int .i64 c.c,.int .i64 c.s,.int .i64 c.t,.int .i64 c.h,.int .i64 c.q,.int .i64 c.w,.int .i64 c.u] 25 (0,0)):=by rw [<- HX];exact box_new _ _
 obtain ⟨Y,HY⟩:∃ Y,X.alloc (.cells #[.int .i64 c.d,.int .i64 c.c,.int .i64 c.s,.int .i64 c.t,.int .i64 c.h,.int .i64 c.q,.int .i64 c.w,.int .i64 c.u] 3)=Y:=⟨_,rfl⟩
 have bY:Below X.heap.size X Y:=by rw [<- HY];exact (Below.refl _ _).alloc (Nat.le_refl _) _
 have hN:=refNums_any (some ⟨X.heap.size,0,none⟩) 8 c.l Y hI (by rw [show c.l.length=8 from rfl];decide) (by rw [<- HY];exact eight_int X c)
 rw [show c.l.length=8 from rfl] at hN
 obtain ⟨M,hM⟩:∃ M:ByteArray,(⟨(numsB c.l).toArray⟩:ByteArray)=M:=⟨_,rfl⟩
 rw [hM] at hN
 have hml:Lb M=numsB c.l:=by rw [<- hM,lb_mk]
 have hms:M.size<=176:=by rw [size_lb hml];have:=numsB_len hI;have h8:c.l.length=8:=rfl;omega
 have n1:¬ 9223372036854775807 < 6 + M.size:=by omega
 have HN:=hide hN
 have HML:=hide hml
 have BY:=hide (below_sub bX bY)
 obtain ⟨x0,x1,x2,x3,x4,x5,x6,x7⟩:=of8z hX
 clear bX hX bY hN hM hml hms hI
 go_enter Tryz.func30,Tryz.ntmps30
 go_wp2_with (go_at_call 37;refine (uh HN).mono ?_;rintro e w2 ⟨rfl,b2⟩;have B2:=hide (below_sub (uh BY) b2);clear b2)
 go_ret
 exact ⟨ret_strL (by simp only [lb_app,uh HML];rfl),uh B2⟩
set_option maxHeartbeats 4000000 in
set_option maxRecDepth 100000 in
theorem refAttr_any (a:ByteArray × Int) (w:World) (h:Sc.atOk a=true) :
  Calls Tryz.prog 31 #[.agg #[.string a.1,.int .i64 a.2]] w fun e w'=>e=.returned (.string ⟨(attrB a).toArray⟩)/\Below w.heap.size w w':=by
 obtain ⟨h1,h2⟩:=atOk_parts h
 have hs:=name_len h1
 have n1:¬ 9223372036854775807 < 5 + a.1.size:=by omega
 have n2:¬ 9223372036854775807 < 5 + a.1.size + 4:=by omega
 have n3:¬ 9223372036854775807 < 5 + a.1.size + 5:=by omega
 have HB:=hide (show attrB a=wAttr ++ 32 :: Lb a.1 ++ 32 :: kindW a.2 from rfl)
 clear h h1 hs
 rcases h2 with h2 | h2
 ·have e1:(a.2 == 1)=true:=by rw [h2];rfl
  have HK:=hide (show kindW a.2=wInt by rw [h2];rfl)
  clear h2
  go_enter Tryz.func31,Tryz.ntmps31
  go_wp2
  go_ret
  exact ⟨ret_strL (by simp only [lb_app,uh HB,uh HK];simp [Lb,wAttr,wInt]),(Below.refl _ _).alloc (Nat.le_refl _) _⟩
 ·have e1:(a.2 == 1)=false:=by rw [h2];rfl
  have HK:=hide (show kindW a.2=wWord by rw [h2];rfl)
  clear h2
  go_enter Tryz.func31,Tryz.ntmps31
  go_wp2
  go_ret
  exact ⟨ret_strL (by simp only [lb_app,uh HB,uh HK];simp [Lb,wAttr,wWord]),(Below.refl _ _).alloc (Nat.le_refl _) _⟩
theorem refNew_any2 (p:Option Addr) (cap:Nat) (l:List (ByteArray × Int)) (w:World) (hl:l.length * 24<=140737488355328) (hA:Sc.AtsOf w p l) (E:Int) (hE:newE l=E) :
  Calls Tryz.prog 29 #[.slice p l.length cap] w fun e w'=>(∃ (q:Option Addr) (n c:Nat),e=.returned (.tuple #[.slice q n c,.int .i64 E]))/\Below w.heap.size w w':=by
 subst hE
 refine (Sc.refNew_any p cap l w hl hA).mono ?_
 rintro e w' ⟨h,hb⟩
 refine ⟨?_,hb⟩
 unfold newE
 rcases h with ⟨h1,rfl⟩ | ⟨h1,h2,rfl⟩ | ⟨h1,h2,h3,q,c,ls,rfl,_⟩
 ·rw [if_neg (fun h=>by have:=h.1;omega),if_pos h1]
  exact ⟨_,_,_,rfl⟩
 ·rw [if_neg (fun h=>h2 h.2),if_neg (by omega)]
  exact ⟨_,_,_,rfl⟩
 ·rw [if_pos ⟨h1,h2,h3⟩]
  exact ⟨_,_,_,rfl⟩
end Go.Proofs.YtdgoibnndfibnaaGreatDoor
namespace Go.Proofs.YtdgoibnndfibnaaGreatDoor
open Go.RowKit Go.Sort
theorem gr_drew {w w':World} {g:Nat} (h:w.grownBy w' (some g)):w.grownBy w'.drew (some g):=⟨h.os,h.tape,h.output,h.size,h.block⟩
theorem rows_cfg {B:Nat} {w:World} {qa:Option Addr} {ca:Nat} {qo:Option Addr} {co:Nat} {us:List Ou} {s:Scr} {C:Cfg} (h:Rows B w qa ca qo co us s):Rows B w qa ca qo co us ⟨C,s.attrs,s.ops⟩:=⟨h.1,h.2,h.3⟩
theorem box_drew {w:World} {b:Nat} {o:Obj} (h:w.heap[b]? = some o):w.drew.heap[b]? = some o:=h
theorem inb_eight {w:World} {sb:Nat} {qa:Option Addr} {ca:Nat} {qo:Option Addr} {co:Nat} {us:List Ou} {s:Scr} {C:Cfg} (hb:w.heap[sb]? = some (.cells #[.int .i64 s.cfg.d,.int .i64 s.cfg.c,.int .i64 s.cfg.s,.int .i64 s.cfg.t,.int .i64 s.cfg.h,.int .i64 s.cfg.q,.int .i64 s.cfg.w,.int .i64 s.cfg.u,.slice qa s.attrs.length ca,.slice qo us.length co] 29 (0,0))) (hr:Rows (sb + 1) w qa ca qo co us s):InB (((((((((w.setCell ⟨sb,0,none⟩ (.int .i64 C.d)).setCell ⟨sb,1,none⟩ (.int .i64 C.c)).setCell ⟨sb,2,none⟩ (.int .i64 C.s)).setCell ⟨sb,3,none⟩ (.int .i64 C.t)).setCell ⟨sb,4,none⟩ (.int .i64 C.h)).setCell ⟨sb,5,none⟩ (.int .i64 C.q)).setCell ⟨sb,6,none⟩ (.int .i64 C.w)).setCell ⟨sb,7,none⟩ (.int .i64 C.u)).drew) sb ⟨C,s.attrs,s.ops⟩/\w.grownBy (((((((((w.setCell ⟨sb,0,none⟩ (.int .i64 C.d)).setCell ⟨sb,1,none⟩ (.int .i64 C.c)).setCell ⟨sb,2,none⟩ (.int .i64 C.s)).setCell ⟨sb,3,none⟩ (.int .i64 C.t)).setCell ⟨sb,4,none⟩ (.int .i64 C.h)).setCell ⟨sb,5,none⟩ (.int .i64 C.q)).setCell ⟨sb,6,none⟩ (.int .i64 C.w)).setCell ⟨sb,7,none⟩ (.int .i64 C.u)).drew) (some sb):=by
 have G8:=gr_drew (gr_set (gr_set (gr_set (gr_set (gr_set (gr_set (gr_set (gr_set (gr_refl w (some sb)) 0 (.int .i64 C.d)) 1 (.int .i64 C.c)) 2 (.int .i64 C.s)) 3 (.int .i64 C.t)) 4 (.int .i64 C.h)) 5 (.int .i64 C.q)) 6 (.int .i64 C.w)) 7 (.int .i64 C.u))
 exact ⟨⟨qa,ca,qo,co,us,box_drew (set_eight hb),rows_cfg (hr.ty G8 hb (by decide) (by decide) (by decide) (by decide))⟩,G8⟩
theorem inb_lt {w:World} {sb:Nat} {s:Scr} (h:InB w sb s):sb < w.heap.size:=by
 obtain ⟨_,_,_,_,_,hbx,_⟩:=h
 exact heap_lt hbx
theorem intAt {w:World} {q:Option Addr} {c:Nat} {l:List Int} {j:Nat} {x:Int} (h:SlOf encI 1 w q c l) (hj:l[j]? = some x):∃ b off,q=some ⟨b,off,none⟩/\b < w.heap.size/\w.cell? ⟨b,off + j,none⟩=some (.int .i64 x):=by
 obtain ⟨b,off,hq,hb,hc⟩:=h.2.2.2.at hj
 exact ⟨b,off,hq,hb,by have:=hc 0 (by omega);rw [Nat.mul_one] at this;exact this⟩
theorem cfgR_no {line:Bs} (h:((cutL line).tail.map numR).length ≠ 8):cfgR line=scr0.cfg:=by
 unfold cfgR
 split
 ·next heq=>rw [heq] at h;exact absurd rfl h
 ·rfl
theorem cfgR_l {line:Bs} (h:((cutL line).tail.map numR).length=8):(cutL line).tail.map numR=(cfgR line).l:=by
 unfold cfgR
 match hl:(cutL line).tail.map numR,h with
 | [a,b,c,d,e,f,g,i],_=>rfl
end Go.Proofs.YtdgoibnndfibnaaGreatDoor
namespace Go.Proofs.YtdgoibnndfibnaaGreatDoor
open Go.RowKit Go.Sort
theorem unqV_le (l:Bs):(unqV l).size<=l.length:=by
 by_cases h:∃ t,l=quoteL t
 ·obtain ⟨t,rfl⟩:=h
  rw [unqV_quote,ba_size]
  have:=escs_ge t
  simp only [quoteL,List.length_append,List.length_cons,List.length_nil]
  omega
 ·rw [unqV_no fun t ht=>h ⟨t,ht⟩]
  exact Nat.zero_le _
theorem rfTx_le {l:List Bs} {n:Nat} (h:∀ w ∈ l,w.length<=n):(rfTx l).size<=n:=by
 cases l with
 | nil=>exact Nat.zero_le _
 | cons d r=>exact Nat.le_trans (unqV_le d) (h d (by simp))
theorem rfCall_len (who ck:Int) {l:List Bs} {n:Nat} (h:∀ w ∈ l,w.length<=n):(rfCall who ck l).text.size<=n/\(rfCall who ck l).ev.length<=l.length/\(rfCall who ck l).nums.length<=l.length:=by
 unfold rfCall
 split
 ·exact ⟨Nat.zero_le _,by simp,by simp⟩
 ·split
  ·cases l with
   | nil=>exact ⟨Nat.zero_le _,by simp,by simp⟩
   | cons c d=>exact ⟨rfTx_le fun w hw=>h w (by simp [hw]),by simp,by simp⟩
  ·exact ⟨rfTx_le h,by simp,by simp⟩
theorem rfOp_len (l:Bs):(rfOp l).text.size<=l.length/\(rfOp l).ev.length<=l.length + 1/\(rfOp l).nums.length<=l.length + 1:=by
 obtain ⟨h1,h2⟩:=cutG_len l.length false [] l (Nat.le_refl _)
 have h3:cutG false [] l=cutL l:=rfl
 rw [h3] at h1 h2
 unfold rfOp
 cases hc:cutL l with
 | nil=>exact ⟨Nat.zero_le _,by simp,by simp⟩
 | cons w rest =>
  rw [hc] at h1 h2
  simp only [List.length_cons,List.length_nil,Nat.zero_add] at h1 h2
  show (rfWs w rest).text.size<=l.length/\(rfWs w rest).ev.length<=l.length + 1/\(rfWs w rest).nums.length<=l.length + 1
  unfold rfWs
  by_cases hk:kindOfW opW 7 w=1
  ·rw [if_pos hk]
   rcases rest with _ | ⟨a,_ | ⟨b,args⟩⟩
   ·exact ⟨Nat.zero_le _,Nat.zero_le _,Nat.zero_le _⟩
   ·exact ⟨Nat.zero_le _,Nat.zero_le _,Nat.zero_le _⟩
   ·obtain ⟨k1,k2,k3⟩:=rfCall_len (numR a) (kindOfW callW 4 b) (l:=args) (n:=l.length) (fun v hv=>h2 v (by simp [hv]))
    simp only [List.length_cons] at h1
    exact ⟨k1,by simp only;omega,by simp only;omega⟩
  ·rw [if_neg hk]
   refine ⟨Nat.zero_le _,Nat.zero_le _, ?_⟩
   simp only [List.length_map]
   omega
end Go.Proofs.YtdgoibnndfibnaaGreatDoor
namespace Go.Proofs.YtdgoibnndfibnaaGreatDoor
open Go.RowKit Go.Sort
theorem beg_cut {line:Bs} (h:begA line=true):∃ y r,cutL line=wAttr :: y :: r:=by
 have h1:line.take 5=[97,116,116,114,32]:=by simpa [begA] using h
 have h2:line=wAttr ++ (32 :: line.drop 5):=by
  have:=(List.take_append_drop 5 line).symm
  rw [h1] at this
  exact this
 have hw:PassC false wAttr false:=Bare.passC (by intro c hc;revert c;decide) false
 have h3:cutL line=wAttr :: cutL (line.drop 5):=by
  rw [h2]
  unfold cutL
  rw [hw,List.nil_append,cutG_blank]
  rfl
 cases hc:cutL (line.drop 5) with
 | nil=>exact absurd hc (cutG_ne _ false [] _ (Nat.le_refl _))
 | cons y r=>exact ⟨y,r,by rw [h3,hc]⟩
theorem words_two {ws:List ByteArray} {line:Bs} (hb:begA line=true) (h:ws.map Lb=cutL line):∃ x y rest,ws=x :: y :: rest:=by
 obtain ⟨y,r,hc⟩:=beg_cut hb
 rw [hc] at h
 match ws,h with
 | [],h=>cases h
 | [_],h=>simp at h
 | x :: y :: rest,_=>exact ⟨x,y,rest,rfl⟩
theorem atR_ws {x y:ByteArray} {rest:List ByteArray} {line:Bs} (h:(x :: y :: rest).map Lb=cutL line):atR line=(y,if rest.map Lb=[wInt] then 1 else 2):=by
 unfold atR
 rw [<- h]
 refine Prod.ext (by simp [Lb]) ?_
 match rest with
 | []=>rfl
 | [z]=>simp
 | z :: z2 :: t=>simp
theorem int_is {z:ByteArray}:(z.toList == [105,110,116])=decide ([z].map Lb=[wInt]):=by
 by_cases h:Lb z=wInt
 ·rw [decide_eq_true (by rw [List.map_cons,h];rfl),ByteArray.toList_eq,beq_iff_eq]
  exact h
 ·rw [decide_eq_false (by simpa using h),ByteArray.toList_eq,beq_eq_false_iff_ne]
  exact h
theorem set2_1 {W:World} {b:Nat} {a0 a1:Value} {T:TypeId} (h:W.heap[b]? = some (.cells #[a0,a1] T (0,0))) (v:Value):(W.setCell ⟨b,1,none⟩ v).heap[b]? = some (.cells #[a0,v] T (0,0)):=by
 simp [World.setCell,Array.getElem?_modify,h]
theorem of2z {W:World} {b:Nat} {a0 a1:Value} {T:TypeId} (h:W.heap[b]? = some (.cells #[a0,a1] T (0,0))):W.cell? ⟨b,0,none⟩=some a0/\W.cell? ⟨b,1,none⟩=some a1/\∀ o,W.frozen? ⟨b,o,none⟩=false:=⟨(of2s h).1,(of2s h).2,fun _=>frozen_free h⟩
theorem AdS.kind {w W:World} {sb a:Nat} {C:Array Value} {T:TypeId} {a0 a1:Value} {qa:Option Addr} {ca:Nat} {qo:Option Addr} {co:Nat} {us:List Ou} {s:Scr} (h:AdS w W sb C a #[a0,a1] T qa ca qo co us s) (hne:¬ a=sb) (hle:sb<=a) (hT:78 ≠ T/\3 ≠ T/\42 ≠ T) (hd:∀ g,(Value.slice qa s.attrs.length ca).ownBlock=some g->g ≠ a) (v:Value):AdS w (W.setCell ⟨a,1,none⟩ v) sb C a #[a0,v] T qa ca qo co us s:=by
 have hg:W.grownBy (W.setCell ⟨a,1,none⟩ v) (some a):=gr_set (gr_refl _ _) 1 v
 have hat:OwnK encAt 62 2 (sb + 1) (W.setCell ⟨a,1,none⟩ v) qa ca s.attrs:=by
  refine ⟨h.rows.at'.1, ?_⟩
  rcases h.rows.at'.2 with h0 | ⟨g,cp,cur,hv,hB,hblk,hr⟩
  ·exact Or.inl h0
  ·have hga:g ≠ a:=hd g (by rw [hv];rfl)
   exact Or.inr ⟨g,cp,cur,hv,hB,(hg.block g (heap_lt hblk) (by intro e;injection e with e;exact hga e)).trans hblk,hr⟩
 exact ⟨below_tr h.bl ((below_gr hg (heap_lt h.loc)).mono hle),(hg.block sb (heap_lt h.box) (by intro e;injection e with e;exact hne e.symm)).trans h.box,set2_1 h.loc v,⟨hat,h.rows.op.ty hg h.loc hT.2.2,h.rows.ops.map fun _ _ h2=>h2.ty hg h.loc hT.1 hT.2.1⟩⟩
theorem refNew_any3 (p:Option Addr) (cap:Nat) (l:List (ByteArray × Int)) (k:Nat) (hk:l.length=k) (w:World) (hl:k<=65) (hA:Sc.AtsOf w p l) (E:Int) (hE:newE l=E) :
  Calls Tryz.prog 29 #[.slice p k cap] w fun e w'=>(∃ (q:Option Addr) (n c:Nat),e=.returned (.tuple #[.slice q n c,.int .i64 E]))/\Below w.heap.size w w':=by
 subst hk
 exact refNew_any2 p cap l w (by omega) hA E hE
end Go.Proofs.YtdgoibnndfibnaaGreatDoor

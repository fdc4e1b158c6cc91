/- ScriptLines, for any two ops. -/
import Derived.Test.YtdgoibnndfibnaaGreatDoorLS35
import Derived.Test.YtdgoibnndfibnaaGreatDoorLText
import Derived.ProofKit
import Derived.LaidMore
import Derived.OpenShut
import Derived.Stop.Joined
import Derived.Stop.LaidErr
namespace Go.Proofs.YtdgoibnndfibnaaGreatDoor
open Go.RowKit Go.Sort
theorem lineB_len {o:Sop} (h:opOk o=true) (hI:SopI o) (hz:OpZ o):(lineB o).length<=140737488355328:=by
 unfold opOk at h
 rw [Bool.and_eq_true] at h
 have hw:=opW_len o.kind
 unfold OpZ at hz
 unfold lineB
 by_cases hk:o.kind=1
 ·rw [if_pos hk] at h ⊢
  simp only [Bool.and_eq_true] at h
  have h2:=callB_len h.2.2 hI
  have h3:=numsB1_len hI.who
  simp only [List.length_append,List.length_cons]
  omega
 ·rw [if_neg hk]
  have h3:=numsB_len hI.nums
  rw [List.length_append]
  omega
theorem opW_neS {k:Int} (h:k=2 ∨ k=3 ∨ k=4 ∨ k=5 ∨ k=6 ∨ k=7):opW k ≠ []:=by
 rcases h with rfl | rfl | rfl | rfl | rfl | rfl <;> decide
theorem lineB_neS {o:Sop} (h:opOk o=true):lineB o ≠ []:=by
 unfold opOk at h
 rw [Bool.and_eq_true] at h
 have h2:=h.2
 unfold lineB
 by_cases hk:o.kind=1
 ·rw [if_pos hk];simp
 ·rw [if_neg hk]
  rw [if_neg hk] at h2
  have hw:opW o.kind ≠ []:=by
   by_cases k2:o.kind=2
   ·exact opW_neS (by omega)
   ·rw [if_neg k2] at h2
    by_cases k5:o.kind=5
    ·exact opW_neS (by omega)
    ·rw [if_neg k5] at h2
     have:=of_decide_eq_true h2
     exact opW_neS (by omega)
  intro e
  exact hw (List.append_eq_nil_iff.1 e).1
theorem opL_ok {o:Sop} (h:opOk o=true):opL o=⟨(lineB o).toArray⟩:=by unfold opL;rw [if_pos h]
theorem opE_ok {o:Sop} (h:opOk o=true):opE o=0:=by unfold opE;rw [if_pos h]
theorem opL_no {o:Sop} (h:opOk o=false):opL o=⟨#[]⟩:=by unfold opL;rw [h];rfl
theorem opE_no {o:Sop} (h:opOk o=false):opE o=1:=by unfold opE;rw [h];rfl
theorem line_get {o:Sop} (h:opOk o=true):∀ k (hk:k < (opL o).size),(opL o)[k] ≠ 10:=by
 intro k hk
 have hm:(opL o)[k] ∈ lineB o:=by
  have h1:Lb (opL o)=lineB o:=by rw [opL_ok h,lb_mk]
  have h2:=drop_at hk
  rw [<- h1]
  exact List.mem_of_mem_drop (by rw [h2];exact List.mem_cons_self)
 exact lineB_end h _ hm
theorem line_ne {o:Sop} (h:opOk o=true):((opL o).toList == [])=false:=by
 rw [beq_eq_false_iff_ne]
 intro e
 have h1:opL o=⟨#[]⟩:=ba_ext (e.trans (show []=ByteArray.toList ⟨#[]⟩ by first | rfl | decide | simp))
 rw [opL_ok h] at h1
 exact lineB_neS h (by have:=congrArg Lb h1;rw [lb_mk] at this;exact this)
theorem line_size {o:Sop} (h:opOk o=true) (hI:SopI o) (hz:OpZ o):(opL o).size<=140737488355328:=by rw [opL_ok h,ba_size];exact lineB_len h hI hz
theorem line_eq {o p:Sop} (h:opOk o=true) (h':opOk p=true) (hI:SopI o) (hI':SopI p):((opL o).toList == (opL p).toList)=decide (o=p):=by
 by_cases e:o=p
 ·subst e;simp
 ·rw [decide_eq_false e,beq_eq_false_iff_ne]
  intro h2
  have h3:=ba_ext h2
  rw [opL_ok h,opL_ok h'] at h3
  exact e (lineB_inj h h' hI hI' (by have:=congrArg Lb h3;rwa [lb_mk,lb_mk] at this))
theorem scriptLines_law {w:World} {u v:Ou} {o p:Sop} (hG:G w) (hu:OpIn w u o) (hv:OpIn w v p) (hI:SopI o) (hI':SopI p) (hz:OpZ o) (hz':OpZ p) :
  Calls Tryz.prog 8 #[u.val,v.val] w fun e w'=>e=.returned (.bool true)/\Below w.heap.size w w':=by
 have HF:=hide (fun (W:World) (hW:Below w.heap.size w W)=>fixed_any W (G_below hG hW))
 have h1:=fun (W:World) (hW:Below w.heap.size w W)=>op_any (hu.below hW) hI (G_below hG hW) hz
 have h2:=fun (W:World) (hW:Below w.heap.size w W)=>op_any (hv.below hW) hI' (G_below hG hW) hz'
 cases ho:opOk o with
 | true =>
  rw [opE_ok ho] at h1
  cases hp:opOk p with
  | true =>
   rw [opE_ok hp] at h2
   exact lines_11 (opL o) (line_get ho) (line_size ho hI hz) (opL p) (decide (o=p)) (line_eq ho hp hI hI') HF (hide h1) (hide h2) (hide fun W hW=>refSameOp_any (hu.below hW) (hv.below hW) (by unfold OpZ at hz;omega) (by unfold OpZ at hz;omega))
  | false =>
   rw [opE_no hp,opL_no hp] at h2
   exact lines_10 (opL o) (line_get ho) (line_size ho hI hz) (line_ne ho) HF (hide h1) (hide h2)
 | false =>
  rw [opE_no ho,opL_no ho] at h1
  cases hp:opOk p with
  | true =>
   rw [opE_ok hp] at h2
   exact lines_01 (opL p) (line_ne hp) HF (hide h1) (hide h2)
  | false =>
   rw [opE_no hp,opL_no hp] at h2
   exact lines_00 HF (hide h1) (hide h2)
end Go.Proofs.YtdgoibnndfibnaaGreatDoor
namespace Go.Proofs.YtdgoibnndfibnaaGreatDoor
open Go.ChangeShapes Go.WideShapes Go.ChangeAt Go.RowKit
theorem Tryz.laidOut:laidOutB Tryz.prog=true:=by kernel_rfl
theorem Tryz.own:ownKnob Tryz.prog.godebug=none:=by kernel_rfl
theorem Tryz.gTab:Tryz.prog.globalNamed "internal/strconv.uint64pow10"=some 1:=by kernel_rfl
theorem Tryz.gTabType:(Tryz.prog.globals[1]?).map (·.type)=some 196:=by kernel_rfl
theorem Tryz.gES:Tryz.prog.globalNamed "strconv.ErrSyntax"=some 2:=by kernel_rfl
theorem Tryz.gESType:(Tryz.prog.globals[2]?).map (·.type)=some 103:=by kernel_rfl
theorem Tryz.gER:Tryz.prog.globalNamed "strconv.ErrRange"=some 3:=by kernel_rfl
theorem Tryz.gERType:(Tryz.prog.globals[3]?).map (·.type)=some 103:=by kernel_rfl
theorem Tryz.cells113:Tryz.prog.cellsOf 113=1:=by kernel_rfl
theorem Tryz.cells196:Tryz.prog.cellsOf 196=20:=by kernel_rfl
theorem Tryz.cells205:Tryz.prog.cellsOf 205=1:=by kernel_rfl
theorem Tryz.cells9:Tryz.prog.cellsOf 9=1:=by kernel_rfl
theorem star:"*" ++ "errors.errorString"="*errors.errorString":=by decide
theorem row203 (u:TypeId) (h:Tryz.prog.typeName? 3 u=some "*errors.errorString"):u=203 :=
 typeName_ptr_named (nm:="errors.errorString") (by rw [star];kernel_rfl) (by kernel_rfl) (by decide) u (by rw [star];exact h)
/-- What every row of the layer lists. -/
def laidAll:List (String × DataW Unit):=[("math/bits.deBruijn32tab",Rows.laid_math_bits_deBruijn32tab),("math/bits.deBruijn64tab",Rows.laid_math_bits_deBruijn64tab),("internal/strconv.uint64pow10",Rows.laid_internal_strconv_uint64pow10),("strconv.ErrRange",Rows.laid_strconv_ErrRange),("strconv.ErrSyntax",Rows.laid_strconv_ErrSyntax)]
theorem tab_data:(Rows.laid_internal_strconv_uint64pow10:DataW Unit)=Lib.tabData .u64 Lib.pow10Tab:=by rfl
theorem G_of_laid {W:World} (h:laidMetH Tryz.prog laidAll W):G W:=by
 rw [MakeChecks.laidMetH_plain _ _ _ (by kernel_rfl)] at h
 have h3:=h.tail.tail
 rw [tab_data] at h3
 have h4:=h3.tail
 have h5:=h4.tail
 obtain ⟨a1,s1,hv1,-,-,-⟩:=laid_sentinel h4 Tryz.gER Tryz.gERType Tryz.underlying103 row203 Tryz.underlying203 Tryz.underlying205 rfl rfl Tryz.underlying9 Tryz.cells205 Tryz.cells9
 obtain ⟨a2,s2,hv2,-,-,-⟩:=laid_sentinel h5 Tryz.gES Tryz.gESType Tryz.underlying103 row203 Tryz.underlying203 Tryz.underlying205 rfl rfl Tryz.underlying9 Tryz.cells205 Tryz.cells9
 exact ⟨Lib.tabIs_of_head Tryz.gTab Tryz.gTabType Tryz.underlying196 Tryz.underlying113 Tryz.cells113 Tryz.cells196 h3,⟨_,_,hv2⟩,⟨_,_,hv1⟩⟩
end Go.Proofs.YtdgoibnndfibnaaGreatDoor

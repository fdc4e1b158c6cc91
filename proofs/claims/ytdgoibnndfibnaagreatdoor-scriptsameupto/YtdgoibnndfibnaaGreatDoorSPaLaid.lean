/- What the rows list of the library's variables gives the walks of the lex layer. -/
import Derived.Test.YtdgoibnndfibnaaGreatDoorSZab
import Derived.ProofKit
import Derived.LaidMore
import Derived.OpenShut
import Derived.Stop.Joined
import Derived.Stop.LaidErr
namespace Go.Proofs.YtdgoibnndfibnaaGreatDoor
open Go.ChangeShapes Go.WideShapes Go.ChangeAt Go.RowKit
theorem Tryz.laidOut:laidOutB Tryz.prog=true:=by kernel_rfl
theorem Tryz.own:ownKnob Tryz.prog.godebug=none:=by kernel_rfl
theorem Tryz.gTab:Tryz.prog.globalNamed "internal/strconv.uint64pow10"=some 1:=by kernel_rfl
theorem Tryz.gTabType:(Tryz.prog.globals[1]?).map (·.type)=some 196:=by kernel_rfl
theorem Tryz.gES:Tryz.prog.globalNamed "strconv.ErrSyntax"=some 2:=by kernel_rfl
theorem Tryz.gESType:(Tryz.prog.globals[2]?).map (·.type)=some 103:=by kernel_rfl
theorem Tryz.gER:Tryz.prog.globalNamed "strconv.ErrRange"=some 3:=by kernel_rfl
theorem Tryz.gERType:(Tryz.prog.globals[3]?).map (·.type)=some 103:=by kernel_rfl
theorem Tryz.cells113:Tryz.prog.cellsOf 113=1:=by kernel_rfl
theorem Tryz.cells196:Tryz.prog.cellsOf 196=20:=by kernel_rfl
theorem Tryz.cells205:Tryz.prog.cellsOf 205=1:=by kernel_rfl
theorem Tryz.cells9:Tryz.prog.cellsOf 9=1:=by kernel_rfl
theorem star:"*" ++ "errors.errorString"="*errors.errorString":=by decide
theorem row203 (u:TypeId) (h:Tryz.prog.typeName? 3 u=some "*errors.errorString"):u=203 :=
 typeName_ptr_named (nm:="errors.errorString") (by rw [star];kernel_rfl) (by kernel_rfl) (by decide) u (by rw [star];exact h)
/-- What every row of the layer lists. -/
def laidAll:List (String × DataW Unit):=[("math/bits.deBruijn32tab",Rows.laid_math_bits_deBruijn32tab),("math/bits.deBruijn64tab",Rows.laid_math_bits_deBruijn64tab),("internal/strconv.uint64pow10",Rows.laid_internal_strconv_uint64pow10),("strconv.ErrRange",Rows.laid_strconv_ErrRange),("strconv.ErrSyntax",Rows.laid_strconv_ErrSyntax)]
theorem tab_data:(Rows.laid_internal_strconv_uint64pow10:DataW Unit)=Lib.tabData .u64 Lib.pow10Tab:=by rfl
theorem G_of_laid {W:World} (h:laidMetH Tryz.prog laidAll W):G W:=by
 rw [MakeChecks.laidMetH_plain _ _ _ (by kernel_rfl)] at h
 have h3:=h.tail.tail
 rw [tab_data] at h3
 have h4:=h3.tail
 have h5:=h4.tail
 obtain ⟨a1,s1,hv1,-,-,-⟩:=laid_sentinel h4 Tryz.gER Tryz.gERType Tryz.underlying103 row203 Tryz.underlying203 Tryz.underlying205 rfl rfl Tryz.underlying9 Tryz.cells205 Tryz.cells9
 obtain ⟨a2,s2,hv2,-,-,-⟩:=laid_sentinel h5 Tryz.gES Tryz.gESType Tryz.underlying103 row203 Tryz.underlying203 Tryz.underlying205 rfl rfl Tryz.underlying9 Tryz.cells205 Tryz.cells9
 exact ⟨Lib.tabIs_of_head Tryz.gTab Tryz.gTabType Tryz.underlying196 Tryz.underlying113 Tryz.cells113 Tryz.cells196 h3,⟨_,_,hv2⟩,⟨_,_,hv1⟩⟩
end Go.Proofs.YtdgoibnndfibnaaGreatDoor

/- What the rows list of the library's variables gives the walks of the lex layer. -/
import Derived.Test.YtpgknpoolkbboaaDoorText
import Derived.ProofKit
import Derived.LaidMore
import Derived.OpenShut
import Derived.Stop.Joined
import Derived.Stop.LaidErr
namespace Go.Proofs.YtpgknpoolkbboaaDoor
open Go.ChangeShapes Go.WideShapes Go.ChangeAt Go.RowKit

theorem Tryd.laidOut : laidOutB Tryd.prog = true := by kernel_rfl
theorem Tryd.own : ownKnob Tryd.prog.godebug = none := by kernel_rfl
theorem Tryd.gTab : Tryd.prog.globalNamed "internal/strconv.uint64pow10" = some 1 := by kernel_rfl
theorem Tryd.gTabType : (Tryd.prog.globals[1]?).map (·.type) = some 127 := by kernel_rfl
theorem Tryd.gES : Tryd.prog.globalNamed "strconv.ErrSyntax" = some 2 := by kernel_rfl
theorem Tryd.gESType : (Tryd.prog.globals[2]?).map (·.type) = some 94 := by kernel_rfl
theorem Tryd.gER : Tryd.prog.globalNamed "strconv.ErrRange" = some 3 := by kernel_rfl
theorem Tryd.gERType : (Tryd.prog.globals[3]?).map (·.type) = some 94 := by kernel_rfl
theorem Tryd.cells111 : Tryd.prog.cellsOf 111 = 1 := by kernel_rfl
theorem Tryd.cells127 : Tryd.prog.cellsOf 127 = 20 := by kernel_rfl
theorem Tryd.cells147 : Tryd.prog.cellsOf 147 = 1 := by kernel_rfl
theorem Tryd.cells9 : Tryd.prog.cellsOf 9 = 1 := by kernel_rfl
theorem star : "*" ++ "errors.errorString" = "*errors.errorString" := by decide
theorem row145 (u : TypeId) (h : Tryd.prog.typeName? 3 u = some "*errors.errorString") : u = 145 :=
  typeName_ptr_named (nm := "errors.errorString") (by rw [star]; kernel_rfl) (by kernel_rfl) (by decide) u (by rw [star]; exact h)

/-- What every row of the layer lists. -/
def laidAll : List (String × DataW Unit) := [("math/bits.deBruijn32tab", Rows.laid_math_bits_deBruijn32tab), ("math/bits.deBruijn64tab", Rows.laid_math_bits_deBruijn64tab), ("internal/strconv.uint64pow10", Rows.laid_internal_strconv_uint64pow10), ("strconv.ErrRange", Rows.laid_strconv_ErrRange), ("strconv.ErrSyntax", Rows.laid_strconv_ErrSyntax)]
theorem tab_data : (Rows.laid_internal_strconv_uint64pow10 : DataW Unit) = Lib.tabData .u64 Lib.pow10Tab := by rfl
theorem G_of_laid {W : World} (h : laidMetH Tryd.prog laidAll W) : G W := by
  rw [MakeChecks.laidMetH_plain _ _ _ (by kernel_rfl)] at h
  have h3 := h.tail.tail
  rw [tab_data] at h3
  have h4 := h3.tail
  have h5 := h4.tail
  obtain ⟨a1, s1, hv1, -, -, -⟩ := laid_sentinel h4 Tryd.gER Tryd.gERType Tryd.underlying94 row145 Tryd.underlying145 Tryd.underlying147 rfl rfl Tryd.underlying9 Tryd.cells147 Tryd.cells9
  obtain ⟨a2, s2, hv2, -, -, -⟩ := laid_sentinel h5 Tryd.gES Tryd.gESType Tryd.underlying94 row145 Tryd.underlying145 Tryd.underlying147 rfl rfl Tryd.underlying9 Tryd.cells147 Tryd.cells9
  exact ⟨Lib.tabIs_of_head Tryd.gTab Tryd.gTabType Tryd.underlying127 Tryd.underlying111 Tryd.cells111 Tryd.cells127 h3, ⟨_, _, hv2⟩, ⟨_, _, hv1⟩⟩
theorem door_met (os : Os) (args : Array Value) : laidMetH Tryd.prog laidAll ((World.doorLaid Tryd.prog 400 os).forCall (fun _ _ => 0) ⟨#[], args, []⟩).memory :=
  laidMetH_of_parts3 (fuel := 8) (laidMet_of_run' 8 (by kernel_rfl) (by kernel_rfl)) (by kernel_rfl) (by kernel_rfl)
end Go.Proofs.YtpgknpoolkbboaaDoor

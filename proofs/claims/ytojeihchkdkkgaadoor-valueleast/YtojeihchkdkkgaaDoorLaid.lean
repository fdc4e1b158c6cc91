/- What the rows list of the library's variables gives the walks of the value layer. -/
import Derived.Test.YtojeihchkdkkgaaDoorText
import Derived.ProofKit
import Derived.LaidMore
import Derived.OpenShut
import Derived.Stop.Joined
import Derived.Stop.LaidErr
namespace Go.Proofs.YtojeihchkdkkgaaDoor
open Go.ChangeShapes Go.WideShapes Go.ChangeAt Go.RowKit

theorem Tryd.own : ownKnob Tryd.prog.godebug = none := by kernel_rfl
theorem Tryd.gTab : Tryd.prog.globalNamed "internal/strconv.uint64pow10" = some 0 := by kernel_rfl
theorem Tryd.gTabType : (Tryd.prog.globals[0]?).map (·.type) = some 82 := by kernel_rfl
theorem Tryd.gES : Tryd.prog.globalNamed "strconv.ErrSyntax" = some 2 := by kernel_rfl
theorem Tryd.gESType : (Tryd.prog.globals[2]?).map (·.type) = some 64 := by kernel_rfl
theorem Tryd.gER : Tryd.prog.globalNamed "strconv.ErrRange" = some 3 := by kernel_rfl
theorem Tryd.gERType : (Tryd.prog.globals[3]?).map (·.type) = some 64 := by kernel_rfl
theorem Tryd.cells55 : Tryd.prog.cellsOf 55 = 1 := by kernel_rfl
theorem Tryd.cells82 : Tryd.prog.cellsOf 82 = 20 := by kernel_rfl
theorem Tryd.cells95 : Tryd.prog.cellsOf 95 = 1 := by kernel_rfl
theorem Tryd.cells9 : Tryd.prog.cellsOf 9 = 1 := by kernel_rfl
theorem Tryd.cells23 : Tryd.prog.cellsOf 23 = 3 := by kernel_rfl
theorem star : "*" ++ "errors.errorString" = "*errors.errorString" := by decide
theorem row93 (u : TypeId) (h : Tryd.prog.typeName? 3 u = some "*errors.errorString") : u = 93 :=
  typeName_ptr_named (nm := "errors.errorString") (by rw [star]; kernel_rfl) (by kernel_rfl) (by decide) u (by rw [star]; exact h)

/-- What every row of the layer lists. -/
def laidAll : List (String × DataW Unit) := [("math/bits.deBruijn32tab", Rows.laid_math_bits_deBruijn32tab), ("math/bits.deBruijn64tab", Rows.laid_math_bits_deBruijn64tab), ("internal/strconv.uint64pow10", Rows.laid_internal_strconv_uint64pow10), ("strconv.ErrRange", Rows.laid_strconv_ErrRange), ("strconv.ErrSyntax", Rows.laid_strconv_ErrSyntax)]
theorem tab_data : (Rows.laid_internal_strconv_uint64pow10 : DataW Unit) = Lib.tabData .u64 Lib.pow10Tab := by rfl
theorem G_of_laid {W : World} (h : laidMetH Tryd.prog laidAll W) : G W := by
  rw [MakeChecks.laidMetH_plain _ _ _ (by kernel_rfl)] at h
  have h3 := h.tail.tail
  rw [tab_data] at h3
  have h4 := h3.tail
  have h5 := h4.tail
  obtain ⟨a1, s1, hv1, -, -, -⟩ := laid_sentinel h4 Tryd.gER Tryd.gERType Tryd.underlying64 row93 Tryd.underlying93 Tryd.underlying95 rfl rfl Tryd.underlying9 Tryd.cells95 Tryd.cells9
  obtain ⟨a2, s2, hv2, -, -, -⟩ := laid_sentinel h5 Tryd.gES Tryd.gESType Tryd.underlying64 row93 Tryd.underlying93 Tryd.underlying95 rfl rfl Tryd.underlying9 Tryd.cells95 Tryd.cells9
  exact ⟨Lib.tabIs_of_head Tryd.gTab Tryd.gTabType Tryd.underlying82 Tryd.underlying55 Tryd.cells55 Tryd.cells82 h3, ⟨_, _, hv2⟩, ⟨_, _, hv1⟩⟩
theorem door_met (os : Os) (args : Array Value) : laidMetH Tryd.prog laidAll ((World.doorLaid Tryd.prog 400 os).forCall (fun _ _ => 0) ⟨#[], args, []⟩).memory :=
  laidMetH_of_parts3 (fuel := 8) (laidMet_of_run' 8 (by kernel_rfl) (by kernel_rfl)) (by kernel_rfl) (by kernel_rfl)
end Go.Proofs.YtojeihchkdkkgaaDoor

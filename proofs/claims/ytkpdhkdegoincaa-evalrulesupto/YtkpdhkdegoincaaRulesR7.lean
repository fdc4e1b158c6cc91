/- Region 7 of the law EvalRules: every order of its operations. -/
import Derived.Test.YtkpdhkdegoincaaRulesHelp
namespace Go.Proofs.Ytkpdhkdegoincaa
open Go.RowKit Go.Sort

set_option maxRecDepth 100000 in
set_option maxHeartbeats 40000000 in
theorem reg7 (a b c : Nd) (va vb vc : Nv) (A B C : Nat) (qe : Option Addr) (ce : Nat) (ev : List Pr) (x y z : Bool) (U : World)
    (hA : U.heap[A]? = some (.cells #[.int .i64 va.kind, .string va.attr, .slice va.qi va.ni va.ci, .slice va.qw va.nw va.cw, .int .i64 va.lo, .int .i64 va.hi, .int .i64 va.op, .slice va.qk va.nk va.ck] 31 (0, 0))) (hB : U.heap[B]? = some (.cells #[.int .i64 vb.kind, .string vb.attr, .slice vb.qi vb.ni vb.ci, .slice vb.qw vb.nw vb.cw, .int .i64 vb.lo, .int .i64 vb.hi, .int .i64 vb.op, .slice vb.qk vb.nk vb.ck] 31 (0, 0))) (hC : U.heap[C]? = some (.cells #[.int .i64 vc.kind, .string vc.attr, .slice vc.qi vc.ni vc.ci, .slice vc.qw vc.nw vc.cw, .int .i64 vc.lo, .int .i64 vc.hi, .int .i64 vc.op, .slice vc.qk vc.nk vc.ck] 31 (0, 0)))
    (na : NdIn U va a) (nb : NdIn U vb b) (nc : NdIn U vc c) (he : SlOf encP 4 U qe ce ev) (hca : chkN a = true) (hcb : chkN b = true) (hcc : chkN c = true)
    (hw : wtN a + wtN b + wtN c ≤ 30000000) (hl : ev.length ≤ 100000000000000) (hx : truN ev a = x) (hy : truN ev b = y) (hz : truN ev c = z)
    (s0 s1 s2 s7 s8 s14 s15 s16 s17 s18 s19 s20 s21 s22 s23 s24 s25 s26 s27 s28 s29 s30 s31 s32 s33 s34 s35 s36 s37 s38 s39 s40 s41 s42 s43 s44 s45 s46 s47 s48 s49 s50 s51 s52 s53 s54 s55 s56 s57 s58 s59 s60 s61 s62 s63 s64 s65 s66 s67 s68 s69 s70 s71 s72 s73 s74 s75 s76 s77 s78 s79 s80 s81 s82 s83 s84 s85 s86 s87 s88 s89 s90 s91 s92 s93 s94 s95 s96 s97 s98 s99 s100 s101 s102 s103 s104 s105 s106 s107 s108 s109 s110 s111 s112 s113 s114 s115 s116 s117 s118 s119 s120 s121 s122 s123 s124 s125 s126 s127 s128 s129 s130 s131 s132 s133 s134 s135 s136 s137 s138 s139 s140 s141 s142 s143 s144 s145 s146 s147 s148 s149 s150 s151 s152 s153 s154 s155 : Value) (d : List Deferred) (Q : Exit → Act → World → Prop) (hP : ∀ c (a : Act) o v w, Q (.panic c) (a.put o v) w → Q (.panic c) a w)
    (hQ : ∀ (W : World) (t50 t51 t52 t53 t54 t55 t56 t57 t58 t59 t60 t61 t62 t63 t64 t65 t66 t67 t68 t69 t70 t71 t72 t73 t74 t75 t76 t77 t78 t79 t80 t81 t82 t83 : Value), Below U.heap.size U W → Q .normal (Act.mk #[s0, s1, s2, .slice qe ev.length ce, .pointer (some ⟨A, 0, none⟩), .pointer (some ⟨B, 0, none⟩), .pointer (some ⟨C, 0, none⟩), s7, s8, .bool x, .bool y, .bool z, .bool (x && y), .bool (x || y), s14, s15, s16, s17, s18, s19, s20, s21, s22, s23, s24, s25, s26, s27, s28, s29, s30, s31, s32, s33, s34, s35, s36, s37, s38, s39, s40, s41, s42, s43, s44, s45, s46, s47, s48, s49, t50, t51, t52, t53, t54, t55, t56, t57, t58, t59, t60, t61, t62, t63, t64, t65, t66, t67, t68, t69, t70, t71, t72, t73, t74, t75, t76, t77, t78, t79, t80, t81, t82, t83, .bool false, s85, s86, s87, s88, s89, s90, s91, s92, s93, s94, s95, s96, s97, s98, s99, s100, s101, s102, s103, s104, s105, s106, s107, s108, s109, s110, s111, s112, s113, s114, s115, s116, s117, s118, s119, s120, s121, s122, s123, s124, s125, s126, s127, s128, s129, s130, s131, s132, s133, s134, s135, s136, s137, s138, s139, s140, s141, s142, s143, s144, s145, s146, s147, s148, s149, s150, s151, s152, s153, s154, s155] d) W) :
    (Code.region 7 #[{ dst := some 50, op := Op.move (Operand.tmp 12), type := 4, pos := "law.go:57", after := #[], guard := none }, { dst := some 51, op := Op.move (Operand.tmp 9), type := 4, pos := "law.go:57", after := #[], guard := none }, { dst := some 52, op := Op.move (Operand.tmp 51), type := 4, pos := "law.go:57", after := #[{ on := 1, ground := Ground.data }], guard := none }, { dst := some 53, op := Op.move (Operand.tmp 10), type := 4, pos := "law.go:57", after := #[{ on := 2, ground := Ground.guard }], guard := some (2, true) }, { dst := some 54, op := Op.pick (Operand.tmp 52) (Operand.tmp 53) (Operand.const (Value.bool false)), type := 4, pos := "law.go:57", after := #[{ on := 2, ground := Ground.data }, { on := 3, ground := Ground.data }], guard := none }, { dst := some 55, op := Op.binOp BinOp.neq 4 (Operand.tmp 50) (Operand.tmp 54) 4, type := 4, pos := "law.go:57", after := #[{ on := 0, ground := Ground.data }, { on := 4, ground := Ground.data }], guard := none }, { dst := some 56, op := Op.move (Operand.tmp 55), type := 4, pos := "law.go:57", after := #[{ on := 5, ground := Ground.data }, { on := 2, ground := Ground.chain }], guard := none }, { dst := some 57, op := Op.move (Operand.tmp 13), type := 4, pos := "law.go:57", after := #[{ on := 6, ground := Ground.guard }], guard := some (6, false) }, { dst := some 58, op := Op.move (Operand.tmp 9), type := 4, pos := "law.go:57", after := #[{ on := 6, ground := Ground.guard }], guard := some (6, false) }, { dst := some 59, op := Op.move (Operand.tmp 58), type := 4, pos := "law.go:57", after := #[{ on := 8, ground := Ground.data }, { on := 6, ground := Ground.chain }, { on := 6, ground := Ground.guard }], guard := some (6, false) }, { dst := some 60, op := Op.move (Operand.tmp 10), type := 4, pos := "law.go:57", after := #[{ on := 9, ground := Ground.guard }], guard := some (9, false) }, { dst := some 61, op := Op.pick (Operand.tmp 59) (Operand.const (Value.bool true)) (Operand.tmp 60), type := 4, pos := "law.go:57", after := #[{ on := 9, ground := Ground.data }, { on := 10, ground := Ground.data }, { on := 6, ground := Ground.guard }], guard := some (6, false) }, { dst := some 62, op := Op.binOp BinOp.neq 4 (Operand.tmp 57) (Operand.tmp 61) 4, type := 4, pos := "law.go:57", after := #[{ on := 7, ground := Ground.data }, { on := 11, ground := Ground.data }, { on := 6, ground := Ground.guard }], guard := some (6, false) }, { dst := some 63, op := Op.pick (Operand.tmp 56) (Operand.const (Value.bool true)) (Operand.tmp 62), type := 4, pos := "law.go:57", after := #[{ on := 6, ground := Ground.data }, { on := 12, ground := Ground.data }], guard := none }, { dst := some 64, op := Op.move (Operand.tmp 63), type := 4, pos := "law.go:57", after := #[{ on := 13, ground := Ground.data }, { on := 9, ground := Ground.chain }], guard := none }, { dst := some 65, op := Op.load 31 (Operand.tmp 4), type := 31, pos := "law.go:57", after := #[{ on := 14, ground := Ground.guard }], guard := some (14, false) }, { dst := some 66, op := Op.call { callee := Callee.value (Operand.func 21), args := #[Operand.tmp 65], argTypes := #[31] }, type := 31, pos := "law.go:57", after := #[{ on := 15, ground := Ground.data }, { on := 14, ground := Ground.chain }, { on := 14, ground := Ground.guard }], guard := some (14, false) }, { dst := some 67, op := Op.move (Operand.tmp 3), type := 23, pos := "law.go:57", after := #[{ on := 14, ground := Ground.guard }], guard := some (14, false) }, { dst := some 68, op := Op.call { callee := Callee.value (Operand.func 8), args := #[Operand.tmp 66, Operand.tmp 67], argTypes := #[31, 23] }, type := 4, pos := "law.go:57", after := #[{ on := 16, ground := Ground.data }, { on := 17, ground := Ground.data }, { on := 16, ground := Ground.chain }, { on := 14, ground := Ground.guard }], guard := some (14, false) }, { dst := some 69, op := Op.move (Operand.tmp 9), type := 4, pos := "law.go:57", after := #[{ on := 14, ground := Ground.guard }], guard := some (14, false) }, { dst := some 70, op := Op.binOp BinOp.eql 4 (Operand.tmp 68) (Operand.tmp 69) 4, type := 4, pos := "law.go:57", after := #[{ on := 18, ground := Ground.data }, { on := 19, ground := Ground.data }, { on := 14, ground := Ground.guard }], guard := some (14, false) }, { dst := some 71, op := Op.pick (Operand.tmp 64) (Operand.const (Value.bool true)) (Operand.tmp 70), type := 4, pos := "law.go:57", after := #[{ on := 14, ground := Ground.data }, { on := 20, ground := Ground.data }], guard := none }, { dst := some 72, op := Op.move (Operand.tmp 71), type := 4, pos := "law.go:57", after := #[{ on := 21, ground := Ground.data }, { on := 18, ground := Ground.chain }], guard := none }, { dst := some 73, op := Op.load 31 (Operand.tmp 4), type := 31, pos := "law.go:57", after := #[{ on := 22, ground := Ground.guard }], guard := some (22, false) }, { dst := some 74, op := Op.call { callee := Callee.value (Operand.func 21), args := #[Operand.tmp 73], argTypes := #[31] }, type := 31, pos := "law.go:57", after := #[{ on := 23, ground := Ground.data }, { on := 22, ground := Ground.chain }, { on := 22, ground := Ground.guard }], guard := some (22, false) }, { dst := some 75, op := Op.load 31 (Operand.tmp 5), type := 31, pos := "law.go:57", after := #[{ on := 22, ground := Ground.guard }], guard := some (22, false) }, { dst := some 76, op := Op.call { callee := Callee.value (Operand.func 21), args := #[Operand.tmp 75], argTypes := #[31] }, type := 31, pos := "law.go:57", after := #[{ on := 25, ground := Ground.data }, { on := 24, ground := Ground.chain }, { on := 22, ground := Ground.guard }], guard := some (22, false) }, { dst := some 77, op := Op.buildSlice 22 2 #[(0, Operand.tmp 74), (1, Operand.tmp 76)], type := 22, pos := "law.go:57", after := #[{ on := 24, ground := Ground.data }, { on := 26, ground := Ground.data }, { on := 22, ground := Ground.guard }], guard := some (22, false) }, { dst := some 78, op := Op.call { callee := Callee.value (Operand.func 20), args := #[Operand.tmp 77], argTypes := #[22] }, type := 31, pos := "law.go:57", after := #[{ on := 27, ground := Ground.data }, { on := 26, ground := Ground.chain }, { on := 22, ground := Ground.guard }], guard := some (22, false) }, { dst := some 79, op := Op.call { callee := Callee.value (Operand.func 21), args := #[Operand.tmp 78], argTypes := #[31] }, type := 31, pos := "law.go:57", after := #[{ on := 28, ground := Ground.data }, { on := 28, ground := Ground.chain }, { on := 22, ground := Ground.guard }], guard := some (22, false) }, { dst := some 80, op := Op.move (Operand.tmp 3), type := 23, pos := "law.go:57", after := #[{ on := 22, ground := Ground.guard }], guard := some (22, false) }, { dst := some 81, op := Op.call { callee := Callee.value (Operand.func 8), args := #[Operand.tmp 79, Operand.tmp 80], argTypes := #[31, 23] }, type := 4, pos := "law.go:57", after := #[{ on := 29, ground := Ground.data }, { on := 30, ground := Ground.data }, { on := 29, ground := Ground.chain }, { on := 22, ground := Ground.guard }], guard := some (22, false) }, { dst := some 82, op := Op.move (Operand.tmp 12), type := 4, pos := "law.go:57", after := #[{ on := 22, ground := Ground.guard }], guard := some (22, false) }, { dst := some 83, op := Op.binOp BinOp.neq 4 (Operand.tmp 81) (Operand.tmp 82) 4, type := 4, pos := "law.go:57", after := #[{ on := 31, ground := Ground.data }, { on := 32, ground := Ground.data }, { on := 22, ground := Ground.guard }], guard := some (22, false) }, { dst := some 84, op := Op.pick (Operand.tmp 72) (Operand.const (Value.bool true)) (Operand.tmp 83), type := 4, pos := "law.go:57", after := #[{ on := 22, ground := Ground.data }, { on := 33, ground := Ground.data }], guard := none }] true).wp Try.prog Q (Act.mk #[s0, s1, s2, .slice qe ev.length ce, .pointer (some ⟨A, 0, none⟩), .pointer (some ⟨B, 0, none⟩), .pointer (some ⟨C, 0, none⟩), s7, s8, .bool x, .bool y, .bool z, .bool (x && y), .bool (x || y), s14, s15, s16, s17, s18, s19, s20, s21, s22, s23, s24, s25, s26, s27, s28, s29, s30, s31, s32, s33, s34, s35, s36, s37, s38, s39, s40, s41, s42, s43, s44, s45, s46, s47, s48, s49, s50, s51, s52, s53, s54, s55, s56, s57, s58, s59, s60, s61, s62, s63, s64, s65, s66, s67, s68, s69, s70, s71, s72, s73, s74, s75, s76, s77, s78, s79, s80, s81, s82, s83, s84, s85, s86, s87, s88, s89, s90, s91, s92, s93, s94, s95, s96, s97, s98, s99, s100, s101, s102, s103, s104, s105, s106, s107, s108, s109, s110, s111, s112, s113, s114, s115, s116, s117, s118, s119, s120, s121, s122, s123, s124, s125, s126, s127, s128, s129, s130, s131, s132, s133, s134, s135, s136, s137, s138, s139, s140, s141, s142, s143, s144, s145, s146, s147, s148, s149, s150, s151, s152, s153, s154, s155] d) U := by
  have KS : ∀ W, Below U.heap.size U W → (fun w' => w'.cell? ⟨A, 0, none⟩ = some (.int .i64 va.kind) ∧ w'.cell? ⟨A, 1, none⟩ = some (.string va.attr) ∧ w'.cell? ⟨A, 2, none⟩ = some (.slice va.qi va.ni va.ci) ∧ w'.cell? ⟨A, 3, none⟩ = some (.slice va.qw va.nw va.cw) ∧ w'.cell? ⟨A, 4, none⟩ = some (.int .i64 va.lo) ∧ w'.cell? ⟨A, 5, none⟩ = some (.int .i64 va.hi) ∧ w'.cell? ⟨A, 6, none⟩ = some (.int .i64 va.op) ∧ w'.cell? ⟨A, 7, none⟩ = some (.slice va.qk va.nk va.ck) ∧ w'.cell? ⟨B, 0, none⟩ = some (.int .i64 vb.kind) ∧ w'.cell? ⟨B, 1, none⟩ = some (.string vb.attr) ∧ w'.cell? ⟨B, 2, none⟩ = some (.slice vb.qi vb.ni vb.ci) ∧ w'.cell? ⟨B, 3, none⟩ = some (.slice vb.qw vb.nw vb.cw) ∧ w'.cell? ⟨B, 4, none⟩ = some (.int .i64 vb.lo) ∧ w'.cell? ⟨B, 5, none⟩ = some (.int .i64 vb.hi) ∧ w'.cell? ⟨B, 6, none⟩ = some (.int .i64 vb.op) ∧ w'.cell? ⟨B, 7, none⟩ = some (.slice vb.qk vb.nk vb.ck) ∧ w'.cell? ⟨C, 0, none⟩ = some (.int .i64 vc.kind) ∧ w'.cell? ⟨C, 1, none⟩ = some (.string vc.attr) ∧ w'.cell? ⟨C, 2, none⟩ = some (.slice vc.qi vc.ni vc.ci) ∧ w'.cell? ⟨C, 3, none⟩ = some (.slice vc.qw vc.nw vc.cw) ∧ w'.cell? ⟨C, 4, none⟩ = some (.int .i64 vc.lo) ∧ w'.cell? ⟨C, 5, none⟩ = some (.int .i64 vc.hi) ∧ w'.cell? ⟨C, 6, none⟩ = some (.int .i64 vc.op) ∧ w'.cell? ⟨C, 7, none⟩ = some (.slice vc.qk vc.nk vc.ck)) W := fun W hb => by
    obtain ⟨a0, a1, a2, a3, a4, a5, a6, a7⟩ := of8' ((hb.block _ (heap_lt hA)).trans hA)
    obtain ⟨b0, b1, b2, b3, b4, b5, b6, b7⟩ := of8' ((hb.block _ (heap_lt hB)).trans hB)
    obtain ⟨c0, c1, c2, c3, c4, c5, c6, c7⟩ := of8' ((hb.block _ (heap_lt hC)).trans hC)
    exact ⟨a0, a1, a2, a3, a4, a5, a6, a7, b0, b1, b2, b3, b4, b5, b6, b7, c0, c1, c2, c3, c4, c5, c6, c7⟩
  have Na := hide na
  have Nb := hide nb
  have Nc := hide nc
  have HE := hide he
  have HCa := hide hca
  have HCb := hide hcb
  have HCc := hide hcc
  have HW := hide hw
  have HL := hide hl
  have HXa := hide hx
  have HXb := hide hy
  have HXc := hide hz
  have HQ := hide hQ
  have HP := hide hP
  clear hP
  have kf : ∀ W, Hid (Below U.heap.size U W) → W = W := fun _ _ => rfl
  clear hA hB hC na nb nc he hca hcb hcc hw hl hx hy hz hQ kf
  refine wp_region_held_drew (S := fun w' => w'.cell? ⟨A, 0, none⟩ = some (.int .i64 va.kind) ∧ w'.cell? ⟨A, 1, none⟩ = some (.string va.attr) ∧ w'.cell? ⟨A, 2, none⟩ = some (.slice va.qi va.ni va.ci) ∧ w'.cell? ⟨A, 3, none⟩ = some (.slice va.qw va.nw va.cw) ∧ w'.cell? ⟨A, 4, none⟩ = some (.int .i64 va.lo) ∧ w'.cell? ⟨A, 5, none⟩ = some (.int .i64 va.hi) ∧ w'.cell? ⟨A, 6, none⟩ = some (.int .i64 va.op) ∧ w'.cell? ⟨A, 7, none⟩ = some (.slice va.qk va.nk va.ck) ∧ w'.cell? ⟨B, 0, none⟩ = some (.int .i64 vb.kind) ∧ w'.cell? ⟨B, 1, none⟩ = some (.string vb.attr) ∧ w'.cell? ⟨B, 2, none⟩ = some (.slice vb.qi vb.ni vb.ci) ∧ w'.cell? ⟨B, 3, none⟩ = some (.slice vb.qw vb.nw vb.cw) ∧ w'.cell? ⟨B, 4, none⟩ = some (.int .i64 vb.lo) ∧ w'.cell? ⟨B, 5, none⟩ = some (.int .i64 vb.hi) ∧ w'.cell? ⟨B, 6, none⟩ = some (.int .i64 vb.op) ∧ w'.cell? ⟨B, 7, none⟩ = some (.slice vb.qk vb.nk vb.ck) ∧ w'.cell? ⟨C, 0, none⟩ = some (.int .i64 vc.kind) ∧ w'.cell? ⟨C, 1, none⟩ = some (.string vc.attr) ∧ w'.cell? ⟨C, 2, none⟩ = some (.slice vc.qi vc.ni vc.ci) ∧ w'.cell? ⟨C, 3, none⟩ = some (.slice vc.qw vc.nw vc.cw) ∧ w'.cell? ⟨C, 4, none⟩ = some (.int .i64 vc.lo) ∧ w'.cell? ⟨C, 5, none⟩ = some (.int .i64 vc.hi) ∧ w'.cell? ⟨C, 6, none⟩ = some (.int .i64 vc.op) ∧ w'.cell? ⟨C, 7, none⟩ = some (.slice vc.qk vc.nk vc.ck)) (by kernel_rfl) (KS _ (Below.refl _ _).drew) (fun hHeld => ?_)
  clear hHeld
  refine dp_start ?_
  intro F hF
  have st0 : Hid (∀ (W : World), Hid (Below U.heap.size U W) → F 35 #[false, false, false, false, false, false, false, false, false, false, false, false, false, false, false, false, false, false, false, false, false, false, false, false, false, false, false, false, false, false, false, false, false, false, false] (Act.mk #[s0, s1, s2, .slice qe ev.length ce, .pointer (some ⟨A, 0, none⟩), .pointer (some ⟨B, 0, none⟩), .pointer (some ⟨C, 0, none⟩), s7, s8, .bool x, .bool y, .bool z, .bool (x && y), .bool (x || y), s14, s15, s16, s17, s18, s19, s20, s21, s22, s23, s24, s25, s26, s27, s28, s29, s30, s31, s32, s33, s34, s35, s36, s37, s38, s39, s40, s41, s42, s43, s44, s45, s46, s47, s48, s49, s50, s51, s52, s53, s54, s55, s56, s57, s58, s59, s60, s61, s62, s63, s64, s65, s66, s67, s68, s69, s70, s71, s72, s73, s74, s75, s76, s77, s78, s79, s80, s81, s82, s83, s84, s85, s86, s87, s88, s89, s90, s91, s92, s93, s94, s95, s96, s97, s98, s99, s100, s101, s102, s103, s104, s105, s106, s107, s108, s109, s110, s111, s112, s113, s114, s115, s116, s117, s118, s119, s120, s121, s122, s123, s124, s125, s126, s127, s128, s129, s130, s131, s132, s133, s134, s135, s136, s137, s138, s139, s140, s141, s142, s143, s144, s145, s146, s147, s148, s149, s150, s151, s152, s153, s154, s155] d) W) := hide (by
    intro W R 
    refine Eq.mpr (hF _ _ _ _) ?_
    have hHeld := KS W (unhide R)
    skip
    cases x
    · cases y
      · refine wpAnyH_take (i := 0) (oi := { dst := some 50, op := Op.move (Operand.tmp 12), type := 4, pos := "law.go:57", after := #[], guard := none }) (v := ?_) rfl (by kernel_rfl) (by kernel_rfl) (by kernel_rfl) (fun c a w => (unhide HP) c a _ _ w) (Or.inl ⟨by rfl, ?_⟩) (by assumption) ?_
        rotate_left
        · intro wq hSw
          go_simp
          with_reducible rfl
        simp only [Act.put, List.setIfInBounds_toArray, List.set_cons_zero, List.set_cons_succ]
        refine wpAnyH_take (i := 1) (oi := { dst := some 51, op := Op.move (Operand.tmp 9), type := 4, pos := "law.go:57", after := #[], guard := none }) (v := ?_) rfl (by kernel_rfl) (by kernel_rfl) (by kernel_rfl) (fun c a w => (unhide HP) c a _ _ w) (Or.inl ⟨by rfl, ?_⟩) (by assumption) ?_
        rotate_left
        · intro wq hSw
          go_simp
          with_reducible rfl
        simp only [Act.put, List.setIfInBounds_toArray, List.set_cons_zero, List.set_cons_succ]
        refine wpAnyH_take (i := 2) (oi := { dst := some 52, op := Op.move (Operand.tmp 51), type := 4, pos := "law.go:57", after := #[{ on := 1, ground := Ground.data }], guard := none }) (v := ?_) rfl (by kernel_rfl) (by kernel_rfl) (by kernel_rfl) (fun c a w => (unhide HP) c a _ _ w) (Or.inl ⟨by rfl, ?_⟩) (by assumption) ?_
        rotate_left
        · intro wq hSw
          go_simp
          with_reducible rfl
        simp only [Act.put, List.setIfInBounds_toArray, List.set_cons_zero, List.set_cons_succ]
        refine wpAnyH_take (i := 3) (oi := { dst := some 53, op := Op.move (Operand.tmp 10), type := 4, pos := "law.go:57", after := #[{ on := 2, ground := Ground.guard }], guard := some (2, true) }) (v := undef) rfl (by kernel_rfl) (by kernel_rfl) (by kernel_rfl) (fun c a w => (unhide HP) c a _ _ w) (Or.inr ⟨by rfl, rfl⟩) (by assumption) ?_
        simp only [Act.put, List.setIfInBounds_toArray, List.set_cons_zero, List.set_cons_succ]
        refine wpAnyH_take (i := 4) (oi := { dst := some 54, op := Op.pick (Operand.tmp 52) (Operand.tmp 53) (Operand.const (Value.bool false)), type := 4, pos := "law.go:57", after := #[{ on := 2, ground := Ground.data }, { on := 3, ground := Ground.data }], guard := none }) (v := ?_) rfl (by kernel_rfl) (by kernel_rfl) (by kernel_rfl) (fun c a w => (unhide HP) c a _ _ w) (Or.inl ⟨by rfl, ?_⟩) (by assumption) ?_
        rotate_left
        · intro wq hSw
          go_simp
          with_reducible rfl
        simp only [Act.put, List.setIfInBounds_toArray, List.set_cons_zero, List.set_cons_succ]
        refine wpAnyH_take (i := 5) (oi := { dst := some 55, op := Op.binOp BinOp.neq 4 (Operand.tmp 50) (Operand.tmp 54) 4, type := 4, pos := "law.go:57", after := #[{ on := 0, ground := Ground.data }, { on := 4, ground := Ground.data }], guard := none }) (v := ?_) rfl (by kernel_rfl) (by kernel_rfl) (by kernel_rfl) (fun c a w => (unhide HP) c a _ _ w) (Or.inl ⟨by rfl, ?_⟩) (by assumption) ?_
        rotate_left
        · intro wq hSw
          go_simp
          with_reducible rfl
        simp only [Act.put, List.setIfInBounds_toArray, List.set_cons_zero, List.set_cons_succ]
        refine wpAnyH_take (i := 6) (oi := { dst := some 56, op := Op.move (Operand.tmp 55), type := 4, pos := "law.go:57", after := #[{ on := 5, ground := Ground.data }, { on := 2, ground := Ground.chain }], guard := none }) (v := ?_) rfl (by kernel_rfl) (by kernel_rfl) (by kernel_rfl) (fun c a w => (unhide HP) c a _ _ w) (Or.inl ⟨by rfl, ?_⟩) (by assumption) ?_
        rotate_left
        · intro wq hSw
          go_simp
          with_reducible rfl
        simp only [Act.put, List.setIfInBounds_toArray, List.set_cons_zero, List.set_cons_succ]
        refine wpAnyH_take (i := 7) (oi := { dst := some 57, op := Op.move (Operand.tmp 13), type := 4, pos := "law.go:57", after := #[{ on := 6, ground := Ground.guard }], guard := some (6, false) }) (v := ?_) rfl (by kernel_rfl) (by kernel_rfl) (by kernel_rfl) (fun c a w => (unhide HP) c a _ _ w) (Or.inl ⟨by rfl, ?_⟩) (by assumption) ?_
        rotate_left
        · intro wq hSw
          go_simp
          with_reducible rfl
        simp only [Act.put, List.setIfInBounds_toArray, List.set_cons_zero, List.set_cons_succ]
        refine wpAnyH_take (i := 8) (oi := { dst := some 58, op := Op.move (Operand.tmp 9), type := 4, pos := "law.go:57", after := #[{ on := 6, ground := Ground.guard }], guard := some (6, false) }) (v := ?_) rfl (by kernel_rfl) (by kernel_rfl) (by kernel_rfl) (fun c a w => (unhide HP) c a _ _ w) (Or.inl ⟨by rfl, ?_⟩) (by assumption) ?_
        rotate_left
        · intro wq hSw
          go_simp
          with_reducible rfl
        simp only [Act.put, List.setIfInBounds_toArray, List.set_cons_zero, List.set_cons_succ]
        refine wpAnyH_take (i := 9) (oi := { dst := some 59, op := Op.move (Operand.tmp 58), type := 4, pos := "law.go:57", after := #[{ on := 8, ground := Ground.data }, { on := 6, ground := Ground.chain }, { on := 6, ground := Ground.guard }], guard := some (6, false) }) (v := ?_) rfl (by kernel_rfl) (by kernel_rfl) (by kernel_rfl) (fun c a w => (unhide HP) c a _ _ w) (Or.inl ⟨by rfl, ?_⟩) (by assumption) ?_
        rotate_left
        · intro wq hSw
          go_simp
          with_reducible rfl
        simp only [Act.put, List.setIfInBounds_toArray, List.set_cons_zero, List.set_cons_succ]
        refine wpAnyH_take (i := 10) (oi := { dst := some 60, op := Op.move (Operand.tmp 10), type := 4, pos := "law.go:57", after := #[{ on := 9, ground := Ground.guard }], guard := some (9, false) }) (v := ?_) rfl (by kernel_rfl) (by kernel_rfl) (by kernel_rfl) (fun c a w => (unhide HP) c a _ _ w) (Or.inl ⟨by rfl, ?_⟩) (by assumption) ?_
        rotate_left
        · intro wq hSw
          go_simp
          with_reducible rfl
        simp only [Act.put, List.setIfInBounds_toArray, List.set_cons_zero, List.set_cons_succ]
        refine wpAnyH_take (i := 11) (oi := { dst := some 61, op := Op.pick (Operand.tmp 59) (Operand.const (Value.bool true)) (Operand.tmp 60), type := 4, pos := "law.go:57", after := #[{ on := 9, ground := Ground.data }, { on := 10, ground := Ground.data }, { on := 6, ground := Ground.guard }], guard := some (6, false) }) (v := ?_) rfl (by kernel_rfl) (by kernel_rfl) (by kernel_rfl) (fun c a w => (unhide HP) c a _ _ w) (Or.inl ⟨by rfl, ?_⟩) (by assumption) ?_
        rotate_left
        · intro wq hSw
          go_simp
          with_reducible rfl
        simp only [Act.put, List.setIfInBounds_toArray, List.set_cons_zero, List.set_cons_succ]
        refine wpAnyH_take (i := 12) (oi := { dst := some 62, op := Op.binOp BinOp.neq 4 (Operand.tmp 57) (Operand.tmp 61) 4, type := 4, pos := "law.go:57", after := #[{ on := 7, ground := Ground.data }, { on := 11, ground := Ground.data }, { on := 6, ground := Ground.guard }], guard := some (6, false) }) (v := ?_) rfl (by kernel_rfl) (by kernel_rfl) (by kernel_rfl) (fun c a w => (unhide HP) c a _ _ w) (Or.inl ⟨by rfl, ?_⟩) (by assumption) ?_
        rotate_left
        · intro wq hSw
          go_simp
          with_reducible rfl
        simp only [Act.put, List.setIfInBounds_toArray, List.set_cons_zero, List.set_cons_succ]
        refine wpAnyH_take (i := 13) (oi := { dst := some 63, op := Op.pick (Operand.tmp 56) (Operand.const (Value.bool true)) (Operand.tmp 62), type := 4, pos := "law.go:57", after := #[{ on := 6, ground := Ground.data }, { on := 12, ground := Ground.data }], guard := none }) (v := ?_) rfl (by kernel_rfl) (by kernel_rfl) (by kernel_rfl) (fun c a w => (unhide HP) c a _ _ w) (Or.inl ⟨by rfl, ?_⟩) (by assumption) ?_
        rotate_left
        · intro wq hSw
          go_simp
          with_reducible rfl
        simp only [Act.put, List.setIfInBounds_toArray, List.set_cons_zero, List.set_cons_succ]
        refine wpAnyH_take (i := 14) (oi := { dst := some 64, op := Op.move (Operand.tmp 63), type := 4, pos := "law.go:57", after := #[{ on := 13, ground := Ground.data }, { on := 9, ground := Ground.chain }], guard := none }) (v := ?_) rfl (by kernel_rfl) (by kernel_rfl) (by kernel_rfl) (fun c a w => (unhide HP) c a _ _ w) (Or.inl ⟨by rfl, ?_⟩) (by assumption) ?_
        rotate_left
        · intro wq hSw
          go_simp
          with_reducible rfl
        simp only [Act.put, List.setIfInBounds_toArray, List.set_cons_zero, List.set_cons_succ]
        refine wpAnyH_take (i := 15) (oi := { dst := some 65, op := Op.load 31 (Operand.tmp 4), type := 31, pos := "law.go:57", after := #[{ on := 14, ground := Ground.guard }], guard := some (14, false) }) (v := ?_) rfl (by kernel_rfl) (by kernel_rfl) (by kernel_rfl) (fun c a w => (unhide HP) c a _ _ w) (Or.inl ⟨by rfl, ?_⟩) (by assumption) ?_
        rotate_left
        · intro wq hSw
          go_simp
          with_reducible rfl
        simp only [Act.put, List.setIfInBounds_toArray, List.set_cons_zero, List.set_cons_succ]
        refine wpAnyH_take (i := 17) (oi := { dst := some 67, op := Op.move (Operand.tmp 3), type := 23, pos := "law.go:57", after := #[{ on := 14, ground := Ground.guard }], guard := some (14, false) }) (v := ?_) rfl (by kernel_rfl) (by kernel_rfl) (by kernel_rfl) (fun c a w => (unhide HP) c a _ _ w) (Or.inl ⟨by rfl, ?_⟩) (by assumption) ?_
        rotate_left
        · intro wq hSw
          go_simp
          with_reducible rfl
        simp only [Act.put, List.setIfInBounds_toArray, List.set_cons_zero, List.set_cons_succ]
        refine wpAnyH_take (i := 19) (oi := { dst := some 69, op := Op.move (Operand.tmp 9), type := 4, pos := "law.go:57", after := #[{ on := 14, ground := Ground.guard }], guard := some (14, false) }) (v := ?_) rfl (by kernel_rfl) (by kernel_rfl) (by kernel_rfl) (fun c a w => (unhide HP) c a _ _ w) (Or.inl ⟨by rfl, ?_⟩) (by assumption) ?_
        rotate_left
        · intro wq hSw
          go_simp
          with_reducible rfl
        simp only [Act.put, List.setIfInBounds_toArray, List.set_cons_zero, List.set_cons_succ]
        refine wpAnyH_ready (rs := [16]) (by kernel_rfl) (by simp) ?_
        refine AllReadyH.cons (o := { dst := some 66, op := Op.call { callee := Callee.value (Operand.func 21), args := #[Operand.tmp 65], argTypes := #[31] }, type := 31, pos := "law.go:57", after := #[{ on := 15, ground := Ground.data }, { on := 14, ground := Ground.chain }, { on := 14, ground := Ground.guard }], guard := some (14, false) }) rfl (fun K hK => ?_) AllReadyH.nil
        go_simp
        refine (cNot a va _ ((unhide Na).keep (unhide R)) (by have := unhide HW; omega)).mono ?_
        rintro e W ⟨⟨v16, rfl, bn⟩, bb⟩
        simp only [Nv.val]
        clear hHeld
        refine hK.out _ _ (KS _ (below_sub (unhide R) bb)) (fun hHeld => ?_)
        clear hK K
        have R2 := hide (below_sub (unhide R) bb)
        have F16 := hide bn.toIn
        clear bn
        clear bb R
        have R := R2
        clear R2
        refine wpAnyH_ready (rs := [18]) (by kernel_rfl) (by simp) ?_
        refine AllReadyH.cons (o := { dst := some 68, op := Op.call { callee := Callee.value (Operand.func 8), args := #[Operand.tmp 66, Operand.tmp 67], argTypes := #[31, 23] }, type := 4, pos := "law.go:57", after := #[{ on := 16, ground := Ground.data }, { on := 17, ground := Ground.data }, { on := 16, ground := Ground.chain }, { on := 14, ground := Ground.guard }], guard := some (14, false) }) rfl (fun K hK => ?_) AllReadyH.nil
        go_simp
        refine (cEv (notT a) v16 qe ce ev _ true (unhide F16) ((unhide HE).below (unhide R)) (ckN a (unhide HCa)) ((tN ev a).trans (congrArg not (unhide HXa))) (by have := unhide HW; have := w1 a; omega) (unhide HL)).mono ?_
        rintro e W ⟨rfl, bb⟩
        clear hHeld
        refine hK.out _ _ (KS _ (below_sub (unhide R) bb)) (fun hHeld => ?_)
        clear hK K
        have R2 := hide (below_sub (unhide R) bb)
        have F16' := (hide ((unhide F16).keep (bb)))
        clear F16
        have F16 := F16'
        clear F16'
        clear bb R
        have R := R2
        clear R2
        refine wpAnyH_take (i := 20) (oi := { dst := some 70, op := Op.binOp BinOp.eql 4 (Operand.tmp 68) (Operand.tmp 69) 4, type := 4, pos := "law.go:57", after := #[{ on := 18, ground := Ground.data }, { on := 19, ground := Ground.data }, { on := 14, ground := Ground.guard }], guard := some (14, false) }) (v := ?_) rfl (by kernel_rfl) (by kernel_rfl) (by kernel_rfl) (fun c a w => (unhide HP) c a _ _ w) (Or.inl ⟨by rfl, ?_⟩) (by assumption) ?_
        rotate_left
        · intro wq hSw
          go_simp
          with_reducible rfl
        simp only [Act.put, List.setIfInBounds_toArray, List.set_cons_zero, List.set_cons_succ]
        refine wpAnyH_take (i := 21) (oi := { dst := some 71, op := Op.pick (Operand.tmp 64) (Operand.const (Value.bool true)) (Operand.tmp 70), type := 4, pos := "law.go:57", after := #[{ on := 14, ground := Ground.data }, { on := 20, ground := Ground.data }], guard := none }) (v := ?_) rfl (by kernel_rfl) (by kernel_rfl) (by kernel_rfl) (fun c a w => (unhide HP) c a _ _ w) (Or.inl ⟨by rfl, ?_⟩) (by assumption) ?_
        rotate_left
        · intro wq hSw
          go_simp
          with_reducible rfl
        simp only [Act.put, List.setIfInBounds_toArray, List.set_cons_zero, List.set_cons_succ]
        refine wpAnyH_take (i := 22) (oi := { dst := some 72, op := Op.move (Operand.tmp 71), type := 4, pos := "law.go:57", after := #[{ on := 21, ground := Ground.data }, { on := 18, ground := Ground.chain }], guard := none }) (v := ?_) rfl (by kernel_rfl) (by kernel_rfl) (by kernel_rfl) (fun c a w => (unhide HP) c a _ _ w) (Or.inl ⟨by rfl, ?_⟩) (by assumption) ?_
        rotate_left
        · intro wq hSw
          go_simp
          with_reducible rfl
        simp only [Act.put, List.setIfInBounds_toArray, List.set_cons_zero, List.set_cons_succ]
        refine wpAnyH_take (i := 23) (oi := { dst := some 73, op := Op.load 31 (Operand.tmp 4), type := 31, pos := "law.go:57", after := #[{ on := 22, ground := Ground.guard }], guard := some (22, false) }) (v := ?_) rfl (by kernel_rfl) (by kernel_rfl) (by kernel_rfl) (fun c a w => (unhide HP) c a _ _ w) (Or.inl ⟨by rfl, ?_⟩) (by assumption) ?_
        rotate_left
        · intro wq hSw
          go_simp
          with_reducible rfl
        simp only [Act.put, List.setIfInBounds_toArray, List.set_cons_zero, List.set_cons_succ]
        refine wpAnyH_take (i := 25) (oi := { dst := some 75, op := Op.load 31 (Operand.tmp 5), type := 31, pos := "law.go:57", after := #[{ on := 22, ground := Ground.guard }], guard := some (22, false) }) (v := ?_) rfl (by kernel_rfl) (by kernel_rfl) (by kernel_rfl) (fun c a w => (unhide HP) c a _ _ w) (Or.inl ⟨by rfl, ?_⟩) (by assumption) ?_
        rotate_left
        · intro wq hSw
          go_simp
          with_reducible rfl
        simp only [Act.put, List.setIfInBounds_toArray, List.set_cons_zero, List.set_cons_succ]
        refine wpAnyH_take (i := 30) (oi := { dst := some 80, op := Op.move (Operand.tmp 3), type := 23, pos := "law.go:57", after := #[{ on := 22, ground := Ground.guard }], guard := some (22, false) }) (v := ?_) rfl (by kernel_rfl) (by kernel_rfl) (by kernel_rfl) (fun c a w => (unhide HP) c a _ _ w) (Or.inl ⟨by rfl, ?_⟩) (by assumption) ?_
        rotate_left
        · intro wq hSw
          go_simp
          with_reducible rfl
        simp only [Act.put, List.setIfInBounds_toArray, List.set_cons_zero, List.set_cons_succ]
        refine wpAnyH_take (i := 32) (oi := { dst := some 82, op := Op.move (Operand.tmp 12), type := 4, pos := "law.go:57", after := #[{ on := 22, ground := Ground.guard }], guard := some (22, false) }) (v := ?_) rfl (by kernel_rfl) (by kernel_rfl) (by kernel_rfl) (fun c a w => (unhide HP) c a _ _ w) (Or.inl ⟨by rfl, ?_⟩) (by assumption) ?_
        rotate_left
        · intro wq hSw
          go_simp
          with_reducible rfl
        simp only [Act.put, List.setIfInBounds_toArray, List.set_cons_zero, List.set_cons_succ]
        refine wpAnyH_ready (rs := [24]) (by kernel_rfl) (by simp) ?_
        refine AllReadyH.cons (o := { dst := some 74, op := Op.call { callee := Callee.value (Operand.func 21), args := #[Operand.tmp 73], argTypes := #[31] }, type := 31, pos := "law.go:57", after := #[{ on := 23, ground := Ground.data }, { on := 22, ground := Ground.chain }, { on := 22, ground := Ground.guard }], guard := some (22, false) }) rfl (fun K hK => ?_) AllReadyH.nil
        go_simp
        refine (cNot a va _ ((unhide Na).keep (unhide R)) (by have := unhide HW; omega)).mono ?_
        rintro e W ⟨⟨v24, rfl, bn⟩, bb⟩
        simp only [Nv.val]
        clear hHeld
        refine hK.out _ _ (KS _ (below_sub (unhide R) bb)) (fun hHeld => ?_)
        clear hK K
        have R2 := hide (below_sub (unhide R) bb)
        have F16' := (hide ((unhide F16).keep (bb)))
        clear F16
        have F16 := F16'
        clear F16'
        have F24 := hide bn.toIn
        clear bn
        clear bb R
        have R := R2
        clear R2
        refine wpAnyH_ready (rs := [26]) (by kernel_rfl) (by simp) ?_
        refine AllReadyH.cons (o := { dst := some 76, op := Op.call { callee := Callee.value (Operand.func 21), args := #[Operand.tmp 75], argTypes := #[31] }, type := 31, pos := "law.go:57", after := #[{ on := 25, ground := Ground.data }, { on := 24, ground := Ground.chain }, { on := 22, ground := Ground.guard }], guard := some (22, false) }) rfl (fun K hK => ?_) AllReadyH.nil
        go_simp
        refine (cNot b vb _ ((unhide Nb).keep (unhide R)) (by have := unhide HW; omega)).mono ?_
        rintro e W ⟨⟨v26, rfl, bn⟩, bb⟩
        simp only [Nv.val]
        clear hHeld
        refine hK.out _ _ (KS _ (below_sub (unhide R) bb)) (fun hHeld => ?_)
        clear hK K
        have R2 := hide (below_sub (unhide R) bb)
        have F16' := (hide ((unhide F16).keep (bb)))
        clear F16
        have F16 := F16'
        clear F16'
        have F24' := (hide ((unhide F24).keep (bb)))
        clear F24
        have F24 := F24'
        clear F24'
        have F26 := hide bn.toIn
        clear bn
        clear bb R
        have R := R2
        clear R2
        refine wpAnyH_ready (rs := [27]) (by kernel_rfl) (by simp) ?_
        refine AllReadyH.cons (o := { dst := some 77, op := Op.buildSlice 22 2 #[(0, Operand.tmp 74), (1, Operand.tmp 76)], type := 22, pos := "law.go:57", after := #[{ on := 24, ground := Ground.data }, { on := 26, ground := Ground.data }, { on := 22, ground := Ground.guard }], guard := some (22, false) }) rfl (fun K hK => ?_) AllReadyH.nil
        go_simp
        clear hHeld
        refine hK.out _ _ (KS _ ((unhide R).alloc (unhide R).size _)) (fun hHeld => ?_)
        clear hK K
        have R2 := hide ((unhide R).alloc (unhide R).size (.cells #[.int .i64 v24.kind, .string v24.attr, .slice v24.qi v24.ni v24.ci, .slice v24.qw v24.nw v24.cw, .int .i64 v24.lo, .int .i64 v24.hi, .int .i64 v24.op, .slice v24.qk v24.nk v24.ck, .int .i64 v26.kind, .string v26.attr, .slice v26.qi v26.ni v26.ci, .slice v26.qw v26.nw v26.cw, .int .i64 v26.lo, .int .i64 v26.hi, .int .i64 v26.op, .slice v26.qk v26.nk v26.ck] 31))
        have H27 := hide (box_nw W (.cells #[.int .i64 v24.kind, .string v24.attr, .slice v24.qi v24.ni v24.ci, .slice v24.qw v24.nw v24.cw, .int .i64 v24.lo, .int .i64 v24.hi, .int .i64 v24.op, .slice v24.qk v24.nk v24.ck, .int .i64 v26.kind, .string v26.attr, .slice v26.qi v26.ni v26.ci, .slice v26.qw v26.nw v26.cw, .int .i64 v26.lo, .int .i64 v26.hi, .int .i64 v26.op, .slice v26.qk v26.nk v26.ck] 31))
        have F16' := (hide ((unhide F16).keep (((Below.refl W.heap.size W).alloc (Nat.le_refl _) (.cells #[.int .i64 v24.kind, .string v24.attr, .slice v24.qi v24.ni v24.ci, .slice v24.qw v24.nw v24.cw, .int .i64 v24.lo, .int .i64 v24.hi, .int .i64 v24.op, .slice v24.qk v24.nk v24.ck, .int .i64 v26.kind, .string v26.attr, .slice v26.qi v26.ni v26.ci, .slice v26.qw v26.nw v26.cw, .int .i64 v26.lo, .int .i64 v26.hi, .int .i64 v26.op, .slice v26.qk v26.nk v26.ck] 31)))))
        clear F16
        have F16 := F16'
        clear F16'
        have F24' := (hide ((unhide F24).keep (((Below.refl W.heap.size W).alloc (Nat.le_refl _) (.cells #[.int .i64 v24.kind, .string v24.attr, .slice v24.qi v24.ni v24.ci, .slice v24.qw v24.nw v24.cw, .int .i64 v24.lo, .int .i64 v24.hi, .int .i64 v24.op, .slice v24.qk v24.nk v24.ck, .int .i64 v26.kind, .string v26.attr, .slice v26.qi v26.ni v26.ci, .slice v26.qw v26.nw v26.cw, .int .i64 v26.lo, .int .i64 v26.hi, .int .i64 v26.op, .slice v26.qk v26.nk v26.ck] 31)))))
        clear F24
        have F24 := F24'
        clear F24'
        have F26' := (hide ((unhide F26).keep (((Below.refl W.heap.size W).alloc (Nat.le_refl _) (.cells #[.int .i64 v24.kind, .string v24.attr, .slice v24.qi v24.ni v24.ci, .slice v24.qw v24.nw v24.cw, .int .i64 v24.lo, .int .i64 v24.hi, .int .i64 v24.op, .slice v24.qk v24.nk v24.ck, .int .i64 v26.kind, .string v26.attr, .slice v26.qi v26.ni v26.ci, .slice v26.qw v26.nw v26.cw, .int .i64 v26.lo, .int .i64 v26.hi, .int .i64 v26.op, .slice v26.qk v26.nk v26.ck] 31)))))
        clear F26
        have F26 := F26'
        clear F26'
        obtain ⟨M27, eM27⟩ : ∃ m, W.heap.size = m := ⟨_, rfl⟩
        obtain ⟨W, eW⟩ : ∃ m, World.alloc W (.cells #[.int .i64 v24.kind, .string v24.attr, .slice v24.qi v24.ni v24.ci, .slice v24.qw v24.nw v24.cw, .int .i64 v24.lo, .int .i64 v24.hi, .int .i64 v24.op, .slice v24.qk v24.nk v24.ck, .int .i64 v26.kind, .string v26.attr, .slice v26.qi v26.ni v26.ci, .slice v26.qw v26.nw v26.cw, .int .i64 v26.lo, .int .i64 v26.hi, .int .i64 v26.op, .slice v26.qk v26.nk v26.ck] 31) = m := ⟨_, rfl⟩
        rw [eM27] at H27
        rw [eW] at R2 H27 hHeld F16 F24 F26
        rw [eW]
        simp only [eM27]
        clear R eW eM27
        have R := R2
        clear R2
        refine wpAnyH_ready (rs := [28]) (by kernel_rfl) (by simp) ?_
        refine AllReadyH.cons (o := { dst := some 78, op := Op.call { callee := Callee.value (Operand.func 20), args := #[Operand.tmp 77], argTypes := #[22] }, type := 31, pos := "law.go:57", after := #[{ on := 27, ground := Ground.data }, { on := 26, ground := Ground.chain }, { on := 22, ground := Ground.guard }], guard := some (22, false) }) rfl (fun K hK => ?_) AllReadyH.nil
        go_simp
        refine (cOr (notT a) (notT b) v24 v26 M27 _ (unhide H27) (unhide F24) (unhide F26) (by have := unhide HW; have := w1 a; have := w1 b; omega)).mono ?_
        rintro e W ⟨⟨v28, rfl, bn⟩, bb⟩
        simp only [Nv.val]
        clear hHeld
        refine hK.out _ _ (KS _ (below_sub (unhide R) bb)) (fun hHeld => ?_)
        clear hK K
        have R2 := hide (below_sub (unhide R) bb)
        have F16' := (hide ((unhide F16).keep (bb)))
        clear F16
        have F16 := F16'
        clear F16'
        have F24' := (hide ((unhide F24).keep (bb)))
        clear F24
        have F24 := F24'
        clear F24'
        have F26' := (hide ((unhide F26).keep (bb)))
        clear F26
        have F26 := F26'
        clear F26'
        have H27' := (hide (((bb).block _ (heap_lt (unhide H27))).trans (unhide H27)))
        clear H27
        have H27 := H27'
        clear H27'
        have F28 := hide bn.toIn
        clear bn
        clear bb R
        have R := R2
        clear R2
        refine wpAnyH_ready (rs := [29]) (by kernel_rfl) (by simp) ?_
        refine AllReadyH.cons (o := { dst := some 79, op := Op.call { callee := Callee.value (Operand.func 21), args := #[Operand.tmp 78], argTypes := #[31] }, type := 31, pos := "law.go:57", after := #[{ on := 28, ground := Ground.data }, { on := 28, ground := Ground.chain }, { on := 22, ground := Ground.guard }], guard := some (22, false) }) rfl (fun K hK => ?_) AllReadyH.nil
        go_simp
        refine (cNot (joinT 4 [(notT a), (notT b)]) v28 _ (unhide F28) (by have := unhide HW; have := w2 4 (notT a) (notT b); have := w1 a; have := w1 b; omega)).mono ?_
        rintro e W ⟨⟨v29, rfl, bn⟩, bb⟩
        simp only [Nv.val]
        clear hHeld
        refine hK.out _ _ (KS _ (below_sub (unhide R) bb)) (fun hHeld => ?_)
        clear hK K
        have R2 := hide (below_sub (unhide R) bb)
        have F16' := (hide ((unhide F16).keep (bb)))
        clear F16
        have F16 := F16'
        clear F16'
        have F24' := (hide ((unhide F24).keep (bb)))
        clear F24
        have F24 := F24'
        clear F24'
        have F26' := (hide ((unhide F26).keep (bb)))
        clear F26
        have F26 := F26'
        clear F26'
        have H27' := (hide (((bb).block _ (heap_lt (unhide H27))).trans (unhide H27)))
        clear H27
        have H27 := H27'
        clear H27'
        have F28' := (hide ((unhide F28).keep (bb)))
        clear F28
        have F28 := F28'
        clear F28'
        have F29 := hide bn.toIn
        clear bn
        clear bb R
        have R := R2
        clear R2
        refine wpAnyH_ready (rs := [31]) (by kernel_rfl) (by simp) ?_
        refine AllReadyH.cons (o := { dst := some 81, op := Op.call { callee := Callee.value (Operand.func 8), args := #[Operand.tmp 79, Operand.tmp 80], argTypes := #[31, 23] }, type := 4, pos := "law.go:57", after := #[{ on := 29, ground := Ground.data }, { on := 30, ground := Ground.data }, { on := 29, ground := Ground.chain }, { on := 22, ground := Ground.guard }], guard := some (22, false) }) rfl (fun K hK => ?_) AllReadyH.nil
        go_simp
        refine (cEv (notT (joinT 4 [(notT a), (notT b)])) v29 qe ce ev _ false (unhide F29) ((unhide HE).below (unhide R)) (ckN (joinT 4 [(notT a), (notT b)]) (ck2 4 (Or.inr rfl) (notT a) (notT b) (ckN a (unhide HCa)) (ckN b (unhide HCb)))) ((tN ev (joinT 4 [(notT a), (notT b)])).trans (congrArg not ((tO2 ev (notT a) (notT b)).trans (congr (congrArg or ((tN ev a).trans (congrArg not (unhide HXa)))) ((tN ev b).trans (congrArg not (unhide HXb))))))) (by have := unhide HW; have := w1 (joinT 4 [(notT a), (notT b)]); have := w2 4 (notT a) (notT b); have := w1 a; have := w1 b; omega) (unhide HL)).mono ?_
        rintro e W ⟨rfl, bb⟩
        clear hHeld
        refine hK.out _ _ (KS _ (below_sub (unhide R) bb)) (fun hHeld => ?_)
        clear hK K
        have R2 := hide (below_sub (unhide R) bb)
        have F16' := (hide ((unhide F16).keep (bb)))
        clear F16
        have F16 := F16'
        clear F16'
        have F24' := (hide ((unhide F24).keep (bb)))
        clear F24
        have F24 := F24'
        clear F24'
        have F26' := (hide ((unhide F26).keep (bb)))
        clear F26
        have F26 := F26'
        clear F26'
        have H27' := (hide (((bb).block _ (heap_lt (unhide H27))).trans (unhide H27)))
        clear H27
        have H27 := H27'
        clear H27'
        have F28' := (hide ((unhide F28).keep (bb)))
        clear F28
        have F28 := F28'
        clear F28'
        have F29' := (hide ((unhide F29).keep (bb)))
        clear F29
        have F29 := F29'
        clear F29'
        clear bb R
        have R := R2
        clear R2
        refine wpAnyH_take (i := 33) (oi := { dst := some 83, op := Op.binOp BinOp.neq 4 (Operand.tmp 81) (Operand.tmp 82) 4, type := 4, pos := "law.go:57", after := #[{ on := 31, ground := Ground.data }, { on := 32, ground := Ground.data }, { on := 22, ground := Ground.guard }], guard := some (22, false) }) (v := ?_) rfl (by kernel_rfl) (by kernel_rfl) (by kernel_rfl) (fun c a w => (unhide HP) c a _ _ w) (Or.inl ⟨by rfl, ?_⟩) (by assumption) ?_
        rotate_left
        · intro wq hSw
          go_simp
          with_reducible rfl
        simp only [Act.put, List.setIfInBounds_toArray, List.set_cons_zero, List.set_cons_succ]
        refine wpAnyH_take (i := 34) (oi := { dst := some 84, op := Op.pick (Operand.tmp 72) (Operand.const (Value.bool true)) (Operand.tmp 83), type := 4, pos := "law.go:57", after := #[{ on := 22, ground := Ground.data }, { on := 33, ground := Ground.data }], guard := none }) (v := ?_) rfl (by kernel_rfl) (by kernel_rfl) (by kernel_rfl) (fun c a w => (unhide HP) c a _ _ w) (Or.inl ⟨by rfl, ?_⟩) (by assumption) ?_
        rotate_left
        · intro wq hSw
          go_simp
          with_reducible rfl
        simp only [Act.put, List.setIfInBounds_toArray, List.set_cons_zero, List.set_cons_succ]
        refine wpAnyH_done (by kernel_rfl) ?_ _
        exact (unhide HQ) W _ _ _ _ _ _ _ _ _ _ _ _ _ _ _ _ _ _ _ _ _ _ _ _ _ _ _ _ _ _ _ _ _ _ (unhide R)
      · refine wpAnyH_take (i := 0) (oi := { dst := some 50, op := Op.move (Operand.tmp 12), type := 4, pos := "law.go:57", after := #[], guard := none }) (v := ?_) rfl (by kernel_rfl) (by kernel_rfl) (by kernel_rfl) (fun c a w => (unhide HP) c a _ _ w) (Or.inl ⟨by rfl, ?_⟩) (by assumption) ?_
        rotate_left
        · intro wq hSw
          go_simp
          with_reducible rfl
        simp only [Act.put, List.setIfInBounds_toArray, List.set_cons_zero, List.set_cons_succ]
        refine wpAnyH_take (i := 1) (oi := { dst := some 51, op := Op.move (Operand.tmp 9), type := 4, pos := "law.go:57", after := #[], guard := none }) (v := ?_) rfl (by kernel_rfl) (by kernel_rfl) (by kernel_rfl) (fun c a w => (unhide HP) c a _ _ w) (Or.inl ⟨by rfl, ?_⟩) (by assumption) ?_
        rotate_left
        · intro wq hSw
          go_simp
          with_reducible rfl
        simp only [Act.put, List.setIfInBounds_toArray, List.set_cons_zero, List.set_cons_succ]
        refine wpAnyH_take (i := 2) (oi := { dst := some 52, op := Op.move (Operand.tmp 51), type := 4, pos := "law.go:57", after := #[{ on := 1, ground := Ground.data }], guard := none }) (v := ?_) rfl (by kernel_rfl) (by kernel_rfl) (by kernel_rfl) (fun c a w => (unhide HP) c a _ _ w) (Or.inl ⟨by rfl, ?_⟩) (by assumption) ?_
        rotate_left
        · intro wq hSw
          go_simp
          with_reducible rfl
        simp only [Act.put, List.setIfInBounds_toArray, List.set_cons_zero, List.set_cons_succ]
        refine wpAnyH_take (i := 3) (oi := { dst := some 53, op := Op.move (Operand.tmp 10), type := 4, pos := "law.go:57", after := #[{ on := 2, ground := Ground.guard }], guard := some (2, true) }) (v := undef) rfl (by kernel_rfl) (by kernel_rfl) (by kernel_rfl) (fun c a w => (unhide HP) c a _ _ w) (Or.inr ⟨by rfl, rfl⟩) (by assumption) ?_
        simp only [Act.put, List.setIfInBounds_toArray, List.set_cons_zero, List.set_cons_succ]
        refine wpAnyH_take (i := 4) (oi := { dst := some 54, op := Op.pick (Operand.tmp 52) (Operand.tmp 53) (Operand.const (Value.bool false)), type := 4, pos := "law.go:57", after := #[{ on := 2, ground := Ground.data }, { on := 3, ground := Ground.data }], guard := none }) (v := ?_) rfl (by kernel_rfl) (by kernel_rfl) (by kernel_rfl) (fun c a w => (unhide HP) c a _ _ w) (Or.inl ⟨by rfl, ?_⟩) (by assumption) ?_
        rotate_left
        · intro wq hSw
          go_simp
          with_reducible rfl
        simp only [Act.put, List.setIfInBounds_toArray, List.set_cons_zero, List.set_cons_succ]
        refine wpAnyH_take (i := 5) (oi := { dst := some 55, op := Op.binOp BinOp.neq 4 (Operand.tmp 50) (Operand.tmp 54) 4, type := 4, pos := "law.go:57", after := #[{ on := 0, ground := Ground.data }, { on := 4, ground := Ground.data }], guard := none }) (v := ?_) rfl (by kernel_rfl) (by kernel_rfl) (by kernel_rfl) (fun c a w => (unhide HP) c a _ _ w) (Or.inl ⟨by rfl, ?_⟩) (by assumption) ?_
        rotate_left
        · intro wq hSw
          go_simp
          with_reducible rfl
        simp only [Act.put, List.setIfInBounds_toArray, List.set_cons_zero, List.set_cons_succ]
        refine wpAnyH_take (i := 6) (oi := { dst := some 56, op := Op.move (Operand.tmp 55), type := 4, pos := "law.go:57", after := #[{ on := 5, ground := Ground.data }, { on := 2, ground := Ground.chain }], guard := none }) (v := ?_) rfl (by kernel_rfl) (by kernel_rfl) (by kernel_rfl) (fun c a w => (unhide HP) c a _ _ w) (Or.inl ⟨by rfl, ?_⟩) (by assumption) ?_
        rotate_left
        · intro wq hSw
          go_simp
          with_reducible rfl
        simp only [Act.put, List.setIfInBounds_toArray, List.set_cons_zero, List.set_cons_succ]
        refine wpAnyH_take (i := 7) (oi := { dst := some 57, op := Op.move (Operand.tmp 13), type := 4, pos := "law.go:57", after := #[{ on := 6, ground := Ground.guard }], guard := some (6, false) }) (v := ?_) rfl (by kernel_rfl) (by kernel_rfl) (by kernel_rfl) (fun c a w => (unhide HP) c a _ _ w) (Or.inl ⟨by rfl, ?_⟩) (by assumption) ?_
        rotate_left
        · intro wq hSw
          go_simp
          with_reducible rfl
        simp only [Act.put, List.setIfInBounds_toArray, List.set_cons_zero, List.set_cons_succ]
        refine wpAnyH_take (i := 8) (oi := { dst := some 58, op := Op.move (Operand.tmp 9), type := 4, pos := "law.go:57", after := #[{ on := 6, ground := Ground.guard }], guard := some (6, false) }) (v := ?_) rfl (by kernel_rfl) (by kernel_rfl) (by kernel_rfl) (fun c a w => (unhide HP) c a _ _ w) (Or.inl ⟨by rfl, ?_⟩) (by assumption) ?_
        rotate_left
        · intro wq hSw
          go_simp
          with_reducible rfl
        simp only [Act.put, List.setIfInBounds_toArray, List.set_cons_zero, List.set_cons_succ]
        refine wpAnyH_take (i := 9) (oi := { dst := some 59, op := Op.move (Operand.tmp 58), type := 4, pos := "law.go:57", after := #[{ on := 8, ground := Ground.data }, { on := 6, ground := Ground.chain }, { on := 6, ground := Ground.guard }], guard := some (6, false) }) (v := ?_) rfl (by kernel_rfl) (by kernel_rfl) (by kernel_rfl) (fun c a w => (unhide HP) c a _ _ w) (Or.inl ⟨by rfl, ?_⟩) (by assumption) ?_
        rotate_left
        · intro wq hSw
          go_simp
          with_reducible rfl
        simp only [Act.put, List.setIfInBounds_toArray, List.set_cons_zero, List.set_cons_succ]
        refine wpAnyH_take (i := 10) (oi := { dst := some 60, op := Op.move (Operand.tmp 10), type := 4, pos := "law.go:57", after := #[{ on := 9, ground := Ground.guard }], guard := some (9, false) }) (v := ?_) rfl (by kernel_rfl) (by kernel_rfl) (by kernel_rfl) (fun c a w => (unhide HP) c a _ _ w) (Or.inl ⟨by rfl, ?_⟩) (by assumption) ?_
        rotate_left
        · intro wq hSw
          go_simp
          with_reducible rfl
        simp only [Act.put, List.setIfInBounds_toArray, List.set_cons_zero, List.set_cons_succ]
        refine wpAnyH_take (i := 11) (oi := { dst := some 61, op := Op.pick (Operand.tmp 59) (Operand.const (Value.bool true)) (Operand.tmp 60), type := 4, pos := "law.go:57", after := #[{ on := 9, ground := Ground.data }, { on := 10, ground := Ground.data }, { on := 6, ground := Ground.guard }], guard := some (6, false) }) (v := ?_) rfl (by kernel_rfl) (by kernel_rfl) (by kernel_rfl) (fun c a w => (unhide HP) c a _ _ w) (Or.inl ⟨by rfl, ?_⟩) (by assumption) ?_
        rotate_left
        · intro wq hSw
          go_simp
          with_reducible rfl
        simp only [Act.put, List.setIfInBounds_toArray, List.set_cons_zero, List.set_cons_succ]
        refine wpAnyH_take (i := 12) (oi := { dst := some 62, op := Op.binOp BinOp.neq 4 (Operand.tmp 57) (Operand.tmp 61) 4, type := 4, pos := "law.go:57", after := #[{ on := 7, ground := Ground.data }, { on := 11, ground := Ground.data }, { on := 6, ground := Ground.guard }], guard := some (6, false) }) (v := ?_) rfl (by kernel_rfl) (by kernel_rfl) (by kernel_rfl) (fun c a w => (unhide HP) c a _ _ w) (Or.inl ⟨by rfl, ?_⟩) (by assumption) ?_
        rotate_left
        · intro wq hSw
          go_simp
          with_reducible rfl
        simp only [Act.put, List.setIfInBounds_toArray, List.set_cons_zero, List.set_cons_succ]
        refine wpAnyH_take (i := 13) (oi := { dst := some 63, op := Op.pick (Operand.tmp 56) (Operand.const (Value.bool true)) (Operand.tmp 62), type := 4, pos := "law.go:57", after := #[{ on := 6, ground := Ground.data }, { on := 12, ground := Ground.data }], guard := none }) (v := ?_) rfl (by kernel_rfl) (by kernel_rfl) (by kernel_rfl) (fun c a w => (unhide HP) c a _ _ w) (Or.inl ⟨by rfl, ?_⟩) (by assumption) ?_
        rotate_left
        · intro wq hSw
          go_simp
          with_reducible rfl
        simp only [Act.put, List.setIfInBounds_toArray, List.set_cons_zero, List.set_cons_succ]
        refine wpAnyH_take (i := 14) (oi := { dst := some 64, op := Op.move (Operand.tmp 63), type := 4, pos := "law.go:57", after := #[{ on := 13, ground := Ground.data }, { on := 9, ground := Ground.chain }], guard := none }) (v := ?_) rfl (by kernel_rfl) (by kernel_rfl) (by kernel_rfl) (fun c a w => (unhide HP) c a _ _ w) (Or.inl ⟨by rfl, ?_⟩) (by assumption) ?_
        rotate_left
        · intro wq hSw
          go_simp
          with_reducible rfl
        simp only [Act.put, List.setIfInBounds_toArray, List.set_cons_zero, List.set_cons_succ]
        refine wpAnyH_take (i := 15) (oi := { dst := some 65, op := Op.load 31 (Operand.tmp 4), type := 31, pos := "law.go:57", after := #[{ on := 14, ground := Ground.guard }], guard := some (14, false) }) (v := ?_) rfl (by kernel_rfl) (by kernel_rfl) (by kernel_rfl) (fun c a w => (unhide HP) c a _ _ w) (Or.inl ⟨by rfl, ?_⟩) (by assumption) ?_
        rotate_left
        · intro wq hSw
          go_simp
          with_reducible rfl
        simp only [Act.put, List.setIfInBounds_toArray, List.set_cons_zero, List.set_cons_succ]
        refine wpAnyH_take (i := 17) (oi := { dst := some 67, op := Op.move (Operand.tmp 3), type := 23, pos := "law.go:57", after := #[{ on := 14, ground := Ground.guard }], guard := some (14, false) }) (v := ?_) rfl (by kernel_rfl) (by kernel_rfl) (by kernel_rfl) (fun c a w => (unhide HP) c a _ _ w) (Or.inl ⟨by rfl, ?_⟩) (by assumption) ?_
        rotate_left
        · intro wq hSw
          go_simp
          with_reducible rfl
        simp only [Act.put, List.setIfInBounds_toArray, List.set_cons_zero, List.set_cons_succ]
        refine wpAnyH_take (i := 19) (oi := { dst := some 69, op := Op.move (Operand.tmp 9), type := 4, pos := "law.go:57", after := #[{ on := 14, ground := Ground.guard }], guard := some (14, false) }) (v := ?_) rfl (by kernel_rfl) (by kernel_rfl) (by kernel_rfl) (fun c a w => (unhide HP) c a _ _ w) (Or.inl ⟨by rfl, ?_⟩) (by assumption) ?_
        rotate_left
        · intro wq hSw
          go_simp
          with_reducible rfl
        simp only [Act.put, List.setIfInBounds_toArray, List.set_cons_zero, List.set_cons_succ]
        refine wpAnyH_ready (rs := [16]) (by kernel_rfl) (by simp) ?_
        refine AllReadyH.cons (o := { dst := some 66, op := Op.call { callee := Callee.value (Operand.func 21), args := #[Operand.tmp 65], argTypes := #[31] }, type := 31, pos := "law.go:57", after := #[{ on := 15, ground := Ground.data }, { on := 14, ground := Ground.chain }, { on := 14, ground := Ground.guard }], guard := some (14, false) }) rfl (fun K hK => ?_) AllReadyH.nil
        go_simp
        refine (cNot a va _ ((unhide Na).keep (unhide R)) (by have := unhide HW; omega)).mono ?_
        rintro e W ⟨⟨v16, rfl, bn⟩, bb⟩
        simp only [Nv.val]
        clear hHeld
        refine hK.out _ _ (KS _ (below_sub (unhide R) bb)) (fun hHeld => ?_)
        clear hK K
        have R2 := hide (below_sub (unhide R) bb)
        have F16 := hide bn.toIn
        clear bn
        clear bb R
        have R := R2
        clear R2
        refine wpAnyH_ready (rs := [18]) (by kernel_rfl) (by simp) ?_
        refine AllReadyH.cons (o := { dst := some 68, op := Op.call { callee := Callee.value (Operand.func 8), args := #[Operand.tmp 66, Operand.tmp 67], argTypes := #[31, 23] }, type := 4, pos := "law.go:57", after := #[{ on := 16, ground := Ground.data }, { on := 17, ground := Ground.data }, { on := 16, ground := Ground.chain }, { on := 14, ground := Ground.guard }], guard := some (14, false) }) rfl (fun K hK => ?_) AllReadyH.nil
        go_simp
        refine (cEv (notT a) v16 qe ce ev _ true (unhide F16) ((unhide HE).below (unhide R)) (ckN a (unhide HCa)) ((tN ev a).trans (congrArg not (unhide HXa))) (by have := unhide HW; have := w1 a; omega) (unhide HL)).mono ?_
        rintro e W ⟨rfl, bb⟩
        clear hHeld
        refine hK.out _ _ (KS _ (below_sub (unhide R) bb)) (fun hHeld => ?_)
        clear hK K
        have R2 := hide (below_sub (unhide R) bb)
        have F16' := (hide ((unhide F16).keep (bb)))
        clear F16
        have F16 := F16'
        clear F16'
        clear bb R
        have R := R2
        clear R2
        refine wpAnyH_take (i := 20) (oi := { dst := some 70, op := Op.binOp BinOp.eql 4 (Operand.tmp 68) (Operand.tmp 69) 4, type := 4, pos := "law.go:57", after := #[{ on := 18, ground := Ground.data }, { on := 19, ground := Ground.data }, { on := 14, ground := Ground.guard }], guard := some (14, false) }) (v := ?_) rfl (by kernel_rfl) (by kernel_rfl) (by kernel_rfl) (fun c a w => (unhide HP) c a _ _ w) (Or.inl ⟨by rfl, ?_⟩) (by assumption) ?_
        rotate_left
        · intro wq hSw
          go_simp
          with_reducible rfl
        simp only [Act.put, List.setIfInBounds_toArray, List.set_cons_zero, List.set_cons_succ]
        refine wpAnyH_take (i := 21) (oi := { dst := some 71, op := Op.pick (Operand.tmp 64) (Operand.const (Value.bool true)) (Operand.tmp 70), type := 4, pos := "law.go:57", after := #[{ on := 14, ground := Ground.data }, { on := 20, ground := Ground.data }], guard := none }) (v := ?_) rfl (by kernel_rfl) (by kernel_rfl) (by kernel_rfl) (fun c a w => (unhide HP) c a _ _ w) (Or.inl ⟨by rfl, ?_⟩) (by assumption) ?_
        rotate_left
        · intro wq hSw
          go_simp
          with_reducible rfl
        simp only [Act.put, List.setIfInBounds_toArray, List.set_cons_zero, List.set_cons_succ]
        refine wpAnyH_take (i := 22) (oi := { dst := some 72, op := Op.move (Operand.tmp 71), type := 4, pos := "law.go:57", after := #[{ on := 21, ground := Ground.data }, { on := 18, ground := Ground.chain }], guard := none }) (v := ?_) rfl (by kernel_rfl) (by kernel_rfl) (by kernel_rfl) (fun c a w => (unhide HP) c a _ _ w) (Or.inl ⟨by rfl, ?_⟩) (by assumption) ?_
        rotate_left
        · intro wq hSw
          go_simp
          with_reducible rfl
        simp only [Act.put, List.setIfInBounds_toArray, List.set_cons_zero, List.set_cons_succ]
        refine wpAnyH_take (i := 23) (oi := { dst := some 73, op := Op.load 31 (Operand.tmp 4), type := 31, pos := "law.go:57", after := #[{ on := 22, ground := Ground.guard }], guard := some (22, false) }) (v := ?_) rfl (by kernel_rfl) (by kernel_rfl) (by kernel_rfl) (fun c a w => (unhide HP) c a _ _ w) (Or.inl ⟨by rfl, ?_⟩) (by assumption) ?_
        rotate_left
        · intro wq hSw
          go_simp
          with_reducible rfl
        simp only [Act.put, List.setIfInBounds_toArray, List.set_cons_zero, List.set_cons_succ]
        refine wpAnyH_take (i := 25) (oi := { dst := some 75, op := Op.load 31 (Operand.tmp 5), type := 31, pos := "law.go:57", after := #[{ on := 22, ground := Ground.guard }], guard := some (22, false) }) (v := ?_) rfl (by kernel_rfl) (by kernel_rfl) (by kernel_rfl) (fun c a w => (unhide HP) c a _ _ w) (Or.inl ⟨by rfl, ?_⟩) (by assumption) ?_
        rotate_left
        · intro wq hSw
          go_simp
          with_reducible rfl
        simp only [Act.put, List.setIfInBounds_toArray, List.set_cons_zero, List.set_cons_succ]
        refine wpAnyH_take (i := 30) (oi := { dst := some 80, op := Op.move (Operand.tmp 3), type := 23, pos := "law.go:57", after := #[{ on := 22, ground := Ground.guard }], guard := some (22, false) }) (v := ?_) rfl (by kernel_rfl) (by kernel_rfl) (by kernel_rfl) (fun c a w => (unhide HP) c a _ _ w) (Or.inl ⟨by rfl, ?_⟩) (by assumption) ?_
        rotate_left
        · intro wq hSw
          go_simp
          with_reducible rfl
        simp only [Act.put, List.setIfInBounds_toArray, List.set_cons_zero, List.set_cons_succ]
        refine wpAnyH_take (i := 32) (oi := { dst := some 82, op := Op.move (Operand.tmp 12), type := 4, pos := "law.go:57", after := #[{ on := 22, ground := Ground.guard }], guard := some (22, false) }) (v := ?_) rfl (by kernel_rfl) (by kernel_rfl) (by kernel_rfl) (fun c a w => (unhide HP) c a _ _ w) (Or.inl ⟨by rfl, ?_⟩) (by assumption) ?_
        rotate_left
        · intro wq hSw
          go_simp
          with_reducible rfl
        simp only [Act.put, List.setIfInBounds_toArray, List.set_cons_zero, List.set_cons_succ]
        refine wpAnyH_ready (rs := [24]) (by kernel_rfl) (by simp) ?_
        refine AllReadyH.cons (o := { dst := some 74, op := Op.call { callee := Callee.value (Operand.func 21), args := #[Operand.tmp 73], argTypes := #[31] }, type := 31, pos := "law.go:57", after := #[{ on := 23, ground := Ground.data }, { on := 22, ground := Ground.chain }, { on := 22, ground := Ground.guard }], guard := some (22, false) }) rfl (fun K hK => ?_) AllReadyH.nil
        go_simp
        refine (cNot a va _ ((unhide Na).keep (unhide R)) (by have := unhide HW; omega)).mono ?_
        rintro e W ⟨⟨v24, rfl, bn⟩, bb⟩
        simp only [Nv.val]
        clear hHeld
        refine hK.out _ _ (KS _ (below_sub (unhide R) bb)) (fun hHeld => ?_)
        clear hK K
        have R2 := hide (below_sub (unhide R) bb)
        have F16' := (hide ((unhide F16).keep (bb)))
        clear F16
        have F16 := F16'
        clear F16'
        have F24 := hide bn.toIn
        clear bn
        clear bb R
        have R := R2
        clear R2
        refine wpAnyH_ready (rs := [26]) (by kernel_rfl) (by simp) ?_
        refine AllReadyH.cons (o := { dst := some 76, op := Op.call { callee := Callee.value (Operand.func 21), args := #[Operand.tmp 75], argTypes := #[31] }, type := 31, pos := "law.go:57", after := #[{ on := 25, ground := Ground.data }, { on := 24, ground := Ground.chain }, { on := 22, ground := Ground.guard }], guard := some (22, false) }) rfl (fun K hK => ?_) AllReadyH.nil
        go_simp
        refine (cNot b vb _ ((unhide Nb).keep (unhide R)) (by have := unhide HW; omega)).mono ?_
        rintro e W ⟨⟨v26, rfl, bn⟩, bb⟩
        simp only [Nv.val]
        clear hHeld
        refine hK.out _ _ (KS _ (below_sub (unhide R) bb)) (fun hHeld => ?_)
        clear hK K
        have R2 := hide (below_sub (unhide R) bb)
        have F16' := (hide ((unhide F16).keep (bb)))
        clear F16
        have F16 := F16'
        clear F16'
        have F24' := (hide ((unhide F24).keep (bb)))
        clear F24
        have F24 := F24'
        clear F24'
        have F26 := hide bn.toIn
        clear bn
        clear bb R
        have R := R2
        clear R2
        refine wpAnyH_ready (rs := [27]) (by kernel_rfl) (by simp) ?_
        refine AllReadyH.cons (o := { dst := some 77, op := Op.buildSlice 22 2 #[(0, Operand.tmp 74), (1, Operand.tmp 76)], type := 22, pos := "law.go:57", after := #[{ on := 24, ground := Ground.data }, { on := 26, ground := Ground.data }, { on := 22, ground := Ground.guard }], guard := some (22, false) }) rfl (fun K hK => ?_) AllReadyH.nil
        go_simp
        clear hHeld
        refine hK.out _ _ (KS _ ((unhide R).alloc (unhide R).size _)) (fun hHeld => ?_)
        clear hK K
        have R2 := hide ((unhide R).alloc (unhide R).size (.cells #[.int .i64 v24.kind, .string v24.attr, .slice v24.qi v24.ni v24.ci, .slice v24.qw v24.nw v24.cw, .int .i64 v24.lo, .int .i64 v24.hi, .int .i64 v24.op, .slice v24.qk v24.nk v24.ck, .int .i64 v26.kind, .string v26.attr, .slice v26.qi v26.ni v26.ci, .slice v26.qw v26.nw v26.cw, .int .i64 v26.lo, .int .i64 v26.hi, .int .i64 v26.op, .slice v26.qk v26.nk v26.ck] 31))
        have H27 := hide (box_nw W (.cells #[.int .i64 v24.kind, .string v24.attr, .slice v24.qi v24.ni v24.ci, .slice v24.qw v24.nw v24.cw, .int .i64 v24.lo, .int .i64 v24.hi, .int .i64 v24.op, .slice v24.qk v24.nk v24.ck, .int .i64 v26.kind, .string v26.attr, .slice v26.qi v26.ni v26.ci, .slice v26.qw v26.nw v26.cw, .int .i64 v26.lo, .int .i64 v26.hi, .int .i64 v26.op, .slice v26.qk v26.nk v26.ck] 31))
        have F16' := (hide ((unhide F16).keep (((Below.refl W.heap.size W).alloc (Nat.le_refl _) (.cells #[.int .i64 v24.kind, .string v24.attr, .slice v24.qi v24.ni v24.ci, .slice v24.qw v24.nw v24.cw, .int .i64 v24.lo, .int .i64 v24.hi, .int .i64 v24.op, .slice v24.qk v24.nk v24.ck, .int .i64 v26.kind, .string v26.attr, .slice v26.qi v26.ni v26.ci, .slice v26.qw v26.nw v26.cw, .int .i64 v26.lo, .int .i64 v26.hi, .int .i64 v26.op, .slice v26.qk v26.nk v26.ck] 31)))))
        clear F16
        have F16 := F16'
        clear F16'
        have F24' := (hide ((unhide F24).keep (((Below.refl W.heap.size W).alloc (Nat.le_refl _) (.cells #[.int .i64 v24.kind, .string v24.attr, .slice v24.qi v24.ni v24.ci, .slice v24.qw v24.nw v24.cw, .int .i64 v24.lo, .int .i64 v24.hi, .int .i64 v24.op, .slice v24.qk v24.nk v24.ck, .int .i64 v26.kind, .string v26.attr, .slice v26.qi v26.ni v26.ci, .slice v26.qw v26.nw v26.cw, .int .i64 v26.lo, .int .i64 v26.hi, .int .i64 v26.op, .slice v26.qk v26.nk v26.ck] 31)))))
        clear F24
        have F24 := F24'
        clear F24'
        have F26' := (hide ((unhide F26).keep (((Below.refl W.heap.size W).alloc (Nat.le_refl _) (.cells #[.int .i64 v24.kind, .string v24.attr, .slice v24.qi v24.ni v24.ci, .slice v24.qw v24.nw v24.cw, .int .i64 v24.lo, .int .i64 v24.hi, .int .i64 v24.op, .slice v24.qk v24.nk v24.ck, .int .i64 v26.kind, .string v26.attr, .slice v26.qi v26.ni v26.ci, .slice v26.qw v26.nw v26.cw, .int .i64 v26.lo, .int .i64 v26.hi, .int .i64 v26.op, .slice v26.qk v26.nk v26.ck] 31)))))
        clear F26
        have F26 := F26'
        clear F26'
        obtain ⟨M27, eM27⟩ : ∃ m, W.heap.size = m := ⟨_, rfl⟩
        obtain ⟨W, eW⟩ : ∃ m, World.alloc W (.cells #[.int .i64 v24.kind, .string v24.attr, .slice v24.qi v24.ni v24.ci, .slice v24.qw v24.nw v24.cw, .int .i64 v24.lo, .int .i64 v24.hi, .int .i64 v24.op, .slice v24.qk v24.nk v24.ck, .int .i64 v26.kind, .string v26.attr, .slice v26.qi v26.ni v26.ci, .slice v26.qw v26.nw v26.cw, .int .i64 v26.lo, .int .i64 v26.hi, .int .i64 v26.op, .slice v26.qk v26.nk v26.ck] 31) = m := ⟨_, rfl⟩
        rw [eM27] at H27
        rw [eW] at R2 H27 hHeld F16 F24 F26
        rw [eW]
        simp only [eM27]
        clear R eW eM27
        have R := R2
        clear R2
        refine wpAnyH_ready (rs := [28]) (by kernel_rfl) (by simp) ?_
        refine AllReadyH.cons (o := { dst := some 78, op := Op.call { callee := Callee.value (Operand.func 20), args := #[Operand.tmp 77], argTypes := #[22] }, type := 31, pos := "law.go:57", after := #[{ on := 27, ground := Ground.data }, { on := 26, ground := Ground.chain }, { on := 22, ground := Ground.guard }], guard := some (22, false) }) rfl (fun K hK => ?_) AllReadyH.nil
        go_simp
        refine (cOr (notT a) (notT b) v24 v26 M27 _ (unhide H27) (unhide F24) (unhide F26) (by have := unhide HW; have := w1 a; have := w1 b; omega)).mono ?_
        rintro e W ⟨⟨v28, rfl, bn⟩, bb⟩
        simp only [Nv.val]
        clear hHeld
        refine hK.out _ _ (KS _ (below_sub (unhide R) bb)) (fun hHeld => ?_)
        clear hK K
        have R2 := hide (below_sub (unhide R) bb)
        have F16' := (hide ((unhide F16).keep (bb)))
        clear F16
        have F16 := F16'
        clear F16'
        have F24' := (hide ((unhide F24).keep (bb)))
        clear F24
        have F24 := F24'
        clear F24'
        have F26' := (hide ((unhide F26).keep (bb)))
        clear F26
        have F26 := F26'
        clear F26'
        have H27' := (hide (((bb).block _ (heap_lt (unhide H27))).trans (unhide H27)))
        clear H27
        have H27 := H27'
        clear H27'
        have F28 := hide bn.toIn
        clear bn
        clear bb R
        have R := R2
        clear R2
        refine wpAnyH_ready (rs := [29]) (by kernel_rfl) (by simp) ?_
        refine AllReadyH.cons (o := { dst := some 79, op := Op.call { callee := Callee.value (Operand.func 21), args := #[Operand.tmp 78], argTypes := #[31] }, type := 31, pos := "law.go:57", after := #[{ on := 28, ground := Ground.data }, { on := 28, ground := Ground.chain }, { on := 22, ground := Ground.guard }], guard := some (22, false) }) rfl (fun K hK => ?_) AllReadyH.nil
        go_simp
        refine (cNot (joinT 4 [(notT a), (notT b)]) v28 _ (unhide F28) (by have := unhide HW; have := w2 4 (notT a) (notT b); have := w1 a; have := w1 b; omega)).mono ?_
        rintro e W ⟨⟨v29, rfl, bn⟩, bb⟩
        simp only [Nv.val]
        clear hHeld
        refine hK.out _ _ (KS _ (below_sub (unhide R) bb)) (fun hHeld => ?_)
        clear hK K
        have R2 := hide (below_sub (unhide R) bb)
        have F16' := (hide ((unhide F16).keep (bb)))
        clear F16
        have F16 := F16'
        clear F16'
        have F24' := (hide ((unhide F24).keep (bb)))
        clear F24
        have F24 := F24'
        clear F24'
        have F26' := (hide ((unhide F26).keep (bb)))
        clear F26
        have F26 := F26'
        clear F26'
        have H27' := (hide (((bb).block _ (heap_lt (unhide H27))).trans (unhide H27)))
        clear H27
        have H27 := H27'
        clear H27'
        have F28' := (hide ((unhide F28).keep (bb)))
        clear F28
        have F28 := F28'
        clear F28'
        have F29 := hide bn.toIn
        clear bn
        clear bb R
        have R := R2
        clear R2
        refine wpAnyH_ready (rs := [31]) (by kernel_rfl) (by simp) ?_
        refine AllReadyH.cons (o := { dst := some 81, op := Op.call { callee := Callee.value (Operand.func 8), args := #[Operand.tmp 79, Operand.tmp 80], argTypes := #[31, 23] }, type := 4, pos := "law.go:57", after := #[{ on := 29, ground := Ground.data }, { on := 30, ground := Ground.data }, { on := 29, ground := Ground.chain }, { on := 22, ground := Ground.guard }], guard := some (22, false) }) rfl (fun K hK => ?_) AllReadyH.nil
        go_simp
        refine (cEv (notT (joinT 4 [(notT a), (notT b)])) v29 qe ce ev _ false (unhide F29) ((unhide HE).below (unhide R)) (ckN (joinT 4 [(notT a), (notT b)]) (ck2 4 (Or.inr rfl) (notT a) (notT b) (ckN a (unhide HCa)) (ckN b (unhide HCb)))) ((tN ev (joinT 4 [(notT a), (notT b)])).trans (congrArg not ((tO2 ev (notT a) (notT b)).trans (congr (congrArg or ((tN ev a).trans (congrArg not (unhide HXa)))) ((tN ev b).trans (congrArg not (unhide HXb))))))) (by have := unhide HW; have := w1 (joinT 4 [(notT a), (notT b)]); have := w2 4 (notT a) (notT b); have := w1 a; have := w1 b; omega) (unhide HL)).mono ?_
        rintro e W ⟨rfl, bb⟩
        clear hHeld
        refine hK.out _ _ (KS _ (below_sub (unhide R) bb)) (fun hHeld => ?_)
        clear hK K
        have R2 := hide (below_sub (unhide R) bb)
        have F16' := (hide ((unhide F16).keep (bb)))
        clear F16
        have F16 := F16'
        clear F16'
        have F24' := (hide ((unhide F24).keep (bb)))
        clear F24
        have F24 := F24'
        clear F24'
        have F26' := (hide ((unhide F26).keep (bb)))
        clear F26
        have F26 := F26'
        clear F26'
        have H27' := (hide (((bb).block _ (heap_lt (unhide H27))).trans (unhide H27)))
        clear H27
        have H27 := H27'
        clear H27'
        have F28' := (hide ((unhide F28).keep (bb)))
        clear F28
        have F28 := F28'
        clear F28'
        have F29' := (hide ((unhide F29).keep (bb)))
        clear F29
        have F29 := F29'
        clear F29'
        clear bb R
        have R := R2
        clear R2
        refine wpAnyH_take (i := 33) (oi := { dst := some 83, op := Op.binOp BinOp.neq 4 (Operand.tmp 81) (Operand.tmp 82) 4, type := 4, pos := "law.go:57", after := #[{ on := 31, ground := Ground.data }, { on := 32, ground := Ground.data }, { on := 22, ground := Ground.guard }], guard := some (22, false) }) (v := ?_) rfl (by kernel_rfl) (by kernel_rfl) (by kernel_rfl) (fun c a w => (unhide HP) c a _ _ w) (Or.inl ⟨by rfl, ?_⟩) (by assumption) ?_
        rotate_left
        · intro wq hSw
          go_simp
          with_reducible rfl
        simp only [Act.put, List.setIfInBounds_toArray, List.set_cons_zero, List.set_cons_succ]
        refine wpAnyH_take (i := 34) (oi := { dst := some 84, op := Op.pick (Operand.tmp 72) (Operand.const (Value.bool true)) (Operand.tmp 83), type := 4, pos := "law.go:57", after := #[{ on := 22, ground := Ground.data }, { on := 33, ground := Ground.data }], guard := none }) (v := ?_) rfl (by kernel_rfl) (by kernel_rfl) (by kernel_rfl) (fun c a w => (unhide HP) c a _ _ w) (Or.inl ⟨by rfl, ?_⟩) (by assumption) ?_
        rotate_left
        · intro wq hSw
          go_simp
          with_reducible rfl
        simp only [Act.put, List.setIfInBounds_toArray, List.set_cons_zero, List.set_cons_succ]
        refine wpAnyH_done (by kernel_rfl) ?_ _
        exact (unhide HQ) W _ _ _ _ _ _ _ _ _ _ _ _ _ _ _ _ _ _ _ _ _ _ _ _ _ _ _ _ _ _ _ _ _ _ (unhide R)
    · cases y
      · refine wpAnyH_take (i := 0) (oi := { dst := some 50, op := Op.move (Operand.tmp 12), type := 4, pos := "law.go:57", after := #[], guard := none }) (v := ?_) rfl (by kernel_rfl) (by kernel_rfl) (by kernel_rfl) (fun c a w => (unhide HP) c a _ _ w) (Or.inl ⟨by rfl, ?_⟩) (by assumption) ?_
        rotate_left
        · intro wq hSw
          go_simp
          with_reducible rfl
        simp only [Act.put, List.setIfInBounds_toArray, List.set_cons_zero, List.set_cons_succ]
        refine wpAnyH_take (i := 1) (oi := { dst := some 51, op := Op.move (Operand.tmp 9), type := 4, pos := "law.go:57", after := #[], guard := none }) (v := ?_) rfl (by kernel_rfl) (by kernel_rfl) (by kernel_rfl) (fun c a w => (unhide HP) c a _ _ w) (Or.inl ⟨by rfl, ?_⟩) (by assumption) ?_
        rotate_left
        · intro wq hSw
          go_simp
          with_reducible rfl
        simp only [Act.put, List.setIfInBounds_toArray, List.set_cons_zero, List.set_cons_succ]
        refine wpAnyH_take (i := 2) (oi := { dst := some 52, op := Op.move (Operand.tmp 51), type := 4, pos := "law.go:57", after := #[{ on := 1, ground := Ground.data }], guard := none }) (v := ?_) rfl (by kernel_rfl) (by kernel_rfl) (by kernel_rfl) (fun c a w => (unhide HP) c a _ _ w) (Or.inl ⟨by rfl, ?_⟩) (by assumption) ?_
        rotate_left
        · intro wq hSw
          go_simp
          with_reducible rfl
        simp only [Act.put, List.setIfInBounds_toArray, List.set_cons_zero, List.set_cons_succ]
        refine wpAnyH_take (i := 3) (oi := { dst := some 53, op := Op.move (Operand.tmp 10), type := 4, pos := "law.go:57", after := #[{ on := 2, ground := Ground.guard }], guard := some (2, true) }) (v := ?_) rfl (by kernel_rfl) (by kernel_rfl) (by kernel_rfl) (fun c a w => (unhide HP) c a _ _ w) (Or.inl ⟨by rfl, ?_⟩) (by assumption) ?_
        rotate_left
        · intro wq hSw
          go_simp
          with_reducible rfl
        simp only [Act.put, List.setIfInBounds_toArray, List.set_cons_zero, List.set_cons_succ]
        refine wpAnyH_take (i := 4) (oi := { dst := some 54, op := Op.pick (Operand.tmp 52) (Operand.tmp 53) (Operand.const (Value.bool false)), type := 4, pos := "law.go:57", after := #[{ on := 2, ground := Ground.data }, { on := 3, ground := Ground.data }], guard := none }) (v := ?_) rfl (by kernel_rfl) (by kernel_rfl) (by kernel_rfl) (fun c a w => (unhide HP) c a _ _ w) (Or.inl ⟨by rfl, ?_⟩) (by assumption) ?_
        rotate_left
        · intro wq hSw
          go_simp
          with_reducible rfl
        simp only [Act.put, List.setIfInBounds_toArray, List.set_cons_zero, List.set_cons_succ]
        refine wpAnyH_take (i := 5) (oi := { dst := some 55, op := Op.binOp BinOp.neq 4 (Operand.tmp 50) (Operand.tmp 54) 4, type := 4, pos := "law.go:57", after := #[{ on := 0, ground := Ground.data }, { on := 4, ground := Ground.data }], guard := none }) (v := ?_) rfl (by kernel_rfl) (by kernel_rfl) (by kernel_rfl) (fun c a w => (unhide HP) c a _ _ w) (Or.inl ⟨by rfl, ?_⟩) (by assumption) ?_
        rotate_left
        · intro wq hSw
          go_simp
          with_reducible rfl
        simp only [Act.put, List.setIfInBounds_toArray, List.set_cons_zero, List.set_cons_succ]
        refine wpAnyH_take (i := 6) (oi := { dst := some 56, op := Op.move (Operand.tmp 55), type := 4, pos := "law.go:57", after := #[{ on := 5, ground := Ground.data }, { on := 2, ground := Ground.chain }], guard := none }) (v := ?_) rfl (by kernel_rfl) (by kernel_rfl) (by kernel_rfl) (fun c a w => (unhide HP) c a _ _ w) (Or.inl ⟨by rfl, ?_⟩) (by assumption) ?_
        rotate_left
        · intro wq hSw
          go_simp
          with_reducible rfl
        simp only [Act.put, List.setIfInBounds_toArray, List.set_cons_zero, List.set_cons_succ]
        refine wpAnyH_take (i := 7) (oi := { dst := some 57, op := Op.move (Operand.tmp 13), type := 4, pos := "law.go:57", after := #[{ on := 6, ground := Ground.guard }], guard := some (6, false) }) (v := ?_) rfl (by kernel_rfl) (by kernel_rfl) (by kernel_rfl) (fun c a w => (unhide HP) c a _ _ w) (Or.inl ⟨by rfl, ?_⟩) (by assumption) ?_
        rotate_left
        · intro wq hSw
          go_simp
          with_reducible rfl
        simp only [Act.put, List.setIfInBounds_toArray, List.set_cons_zero, List.set_cons_succ]
        refine wpAnyH_take (i := 8) (oi := { dst := some 58, op := Op.move (Operand.tmp 9), type := 4, pos := "law.go:57", after := #[{ on := 6, ground := Ground.guard }], guard := some (6, false) }) (v := ?_) rfl (by kernel_rfl) (by kernel_rfl) (by kernel_rfl) (fun c a w => (unhide HP) c a _ _ w) (Or.inl ⟨by rfl, ?_⟩) (by assumption) ?_
        rotate_left
        · intro wq hSw
          go_simp
          with_reducible rfl
        simp only [Act.put, List.setIfInBounds_toArray, List.set_cons_zero, List.set_cons_succ]
        refine wpAnyH_take (i := 9) (oi := { dst := some 59, op := Op.move (Operand.tmp 58), type := 4, pos := "law.go:57", after := #[{ on := 8, ground := Ground.data }, { on := 6, ground := Ground.chain }, { on := 6, ground := Ground.guard }], guard := some (6, false) }) (v := ?_) rfl (by kernel_rfl) (by kernel_rfl) (by kernel_rfl) (fun c a w => (unhide HP) c a _ _ w) (Or.inl ⟨by rfl, ?_⟩) (by assumption) ?_
        rotate_left
        · intro wq hSw
          go_simp
          with_reducible rfl
        simp only [Act.put, List.setIfInBounds_toArray, List.set_cons_zero, List.set_cons_succ]
        refine wpAnyH_take (i := 10) (oi := { dst := some 60, op := Op.move (Operand.tmp 10), type := 4, pos := "law.go:57", after := #[{ on := 9, ground := Ground.guard }], guard := some (9, false) }) (v := undef) rfl (by kernel_rfl) (by kernel_rfl) (by kernel_rfl) (fun c a w => (unhide HP) c a _ _ w) (Or.inr ⟨by rfl, rfl⟩) (by assumption) ?_
        simp only [Act.put, List.setIfInBounds_toArray, List.set_cons_zero, List.set_cons_succ]
        refine wpAnyH_take (i := 11) (oi := { dst := some 61, op := Op.pick (Operand.tmp 59) (Operand.const (Value.bool true)) (Operand.tmp 60), type := 4, pos := "law.go:57", after := #[{ on := 9, ground := Ground.data }, { on := 10, ground := Ground.data }, { on := 6, ground := Ground.guard }], guard := some (6, false) }) (v := ?_) rfl (by kernel_rfl) (by kernel_rfl) (by kernel_rfl) (fun c a w => (unhide HP) c a _ _ w) (Or.inl ⟨by rfl, ?_⟩) (by assumption) ?_
        rotate_left
        · intro wq hSw
          go_simp
          with_reducible rfl
        simp only [Act.put, List.setIfInBounds_toArray, List.set_cons_zero, List.set_cons_succ]
        refine wpAnyH_take (i := 12) (oi := { dst := some 62, op := Op.binOp BinOp.neq 4 (Operand.tmp 57) (Operand.tmp 61) 4, type := 4, pos := "law.go:57", after := #[{ on := 7, ground := Ground.data }, { on := 11, ground := Ground.data }, { on := 6, ground := Ground.guard }], guard := some (6, false) }) (v := ?_) rfl (by kernel_rfl) (by kernel_rfl) (by kernel_rfl) (fun c a w => (unhide HP) c a _ _ w) (Or.inl ⟨by rfl, ?_⟩) (by assumption) ?_
        rotate_left
        · intro wq hSw
          go_simp
          with_reducible rfl
        simp only [Act.put, List.setIfInBounds_toArray, List.set_cons_zero, List.set_cons_succ]
        refine wpAnyH_take (i := 13) (oi := { dst := some 63, op := Op.pick (Operand.tmp 56) (Operand.const (Value.bool true)) (Operand.tmp 62), type := 4, pos := "law.go:57", after := #[{ on := 6, ground := Ground.data }, { on := 12, ground := Ground.data }], guard := none }) (v := ?_) rfl (by kernel_rfl) (by kernel_rfl) (by kernel_rfl) (fun c a w => (unhide HP) c a _ _ w) (Or.inl ⟨by rfl, ?_⟩) (by assumption) ?_
        rotate_left
        · intro wq hSw
          go_simp
          with_reducible rfl
        simp only [Act.put, List.setIfInBounds_toArray, List.set_cons_zero, List.set_cons_succ]
        refine wpAnyH_take (i := 14) (oi := { dst := some 64, op := Op.move (Operand.tmp 63), type := 4, pos := "law.go:57", after := #[{ on := 13, ground := Ground.data }, { on := 9, ground := Ground.chain }], guard := none }) (v := ?_) rfl (by kernel_rfl) (by kernel_rfl) (by kernel_rfl) (fun c a w => (unhide HP) c a _ _ w) (Or.inl ⟨by rfl, ?_⟩) (by assumption) ?_
        rotate_left
        · intro wq hSw
          go_simp
          with_reducible rfl
        simp only [Act.put, List.setIfInBounds_toArray, List.set_cons_zero, List.set_cons_succ]
        refine wpAnyH_take (i := 15) (oi := { dst := some 65, op := Op.load 31 (Operand.tmp 4), type := 31, pos := "law.go:57", after := #[{ on := 14, ground := Ground.guard }], guard := some (14, false) }) (v := ?_) rfl (by kernel_rfl) (by kernel_rfl) (by kernel_rfl) (fun c a w => (unhide HP) c a _ _ w) (Or.inl ⟨by rfl, ?_⟩) (by assumption) ?_
        rotate_left
        · intro wq hSw
          go_simp
          with_reducible rfl
        simp only [Act.put, List.setIfInBounds_toArray, List.set_cons_zero, List.set_cons_succ]
        refine wpAnyH_take (i := 17) (oi := { dst := some 67, op := Op.move (Operand.tmp 3), type := 23, pos := "law.go:57", after := #[{ on := 14, ground := Ground.guard }], guard := some (14, false) }) (v := ?_) rfl (by kernel_rfl) (by kernel_rfl) (by kernel_rfl) (fun c a w => (unhide HP) c a _ _ w) (Or.inl ⟨by rfl, ?_⟩) (by assumption) ?_
        rotate_left
        · intro wq hSw
          go_simp
          with_reducible rfl
        simp only [Act.put, List.setIfInBounds_toArray, List.set_cons_zero, List.set_cons_succ]
        refine wpAnyH_take (i := 19) (oi := { dst := some 69, op := Op.move (Operand.tmp 9), type := 4, pos := "law.go:57", after := #[{ on := 14, ground := Ground.guard }], guard := some (14, false) }) (v := ?_) rfl (by kernel_rfl) (by kernel_rfl) (by kernel_rfl) (fun c a w => (unhide HP) c a _ _ w) (Or.inl ⟨by rfl, ?_⟩) (by assumption) ?_
        rotate_left
        · intro wq hSw
          go_simp
          with_reducible rfl
        simp only [Act.put, List.setIfInBounds_toArray, List.set_cons_zero, List.set_cons_succ]
        refine wpAnyH_ready (rs := [16]) (by kernel_rfl) (by simp) ?_
        refine AllReadyH.cons (o := { dst := some 66, op := Op.call { callee := Callee.value (Operand.func 21), args := #[Operand.tmp 65], argTypes := #[31] }, type := 31, pos := "law.go:57", after := #[{ on := 15, ground := Ground.data }, { on := 14, ground := Ground.chain }, { on := 14, ground := Ground.guard }], guard := some (14, false) }) rfl (fun K hK => ?_) AllReadyH.nil
        go_simp
        refine (cNot a va _ ((unhide Na).keep (unhide R)) (by have := unhide HW; omega)).mono ?_
        rintro e W ⟨⟨v16, rfl, bn⟩, bb⟩
        simp only [Nv.val]
        clear hHeld
        refine hK.out _ _ (KS _ (below_sub (unhide R) bb)) (fun hHeld => ?_)
        clear hK K
        have R2 := hide (below_sub (unhide R) bb)
        have F16 := hide bn.toIn
        clear bn
        clear bb R
        have R := R2
        clear R2
        refine wpAnyH_ready (rs := [18]) (by kernel_rfl) (by simp) ?_
        refine AllReadyH.cons (o := { dst := some 68, op := Op.call { callee := Callee.value (Operand.func 8), args := #[Operand.tmp 66, Operand.tmp 67], argTypes := #[31, 23] }, type := 4, pos := "law.go:57", after := #[{ on := 16, ground := Ground.data }, { on := 17, ground := Ground.data }, { on := 16, ground := Ground.chain }, { on := 14, ground := Ground.guard }], guard := some (14, false) }) rfl (fun K hK => ?_) AllReadyH.nil
        go_simp
        refine (cEv (notT a) v16 qe ce ev _ false (unhide F16) ((unhide HE).below (unhide R)) (ckN a (unhide HCa)) ((tN ev a).trans (congrArg not (unhide HXa))) (by have := unhide HW; have := w1 a; omega) (unhide HL)).mono ?_
        rintro e W ⟨rfl, bb⟩
        clear hHeld
        refine hK.out _ _ (KS _ (below_sub (unhide R) bb)) (fun hHeld => ?_)
        clear hK K
        have R2 := hide (below_sub (unhide R) bb)
        have F16' := (hide ((unhide F16).keep (bb)))
        clear F16
        have F16 := F16'
        clear F16'
        clear bb R
        have R := R2
        clear R2
        refine wpAnyH_take (i := 20) (oi := { dst := some 70, op := Op.binOp BinOp.eql 4 (Operand.tmp 68) (Operand.tmp 69) 4, type := 4, pos := "law.go:57", after := #[{ on := 18, ground := Ground.data }, { on := 19, ground := Ground.data }, { on := 14, ground := Ground.guard }], guard := some (14, false) }) (v := ?_) rfl (by kernel_rfl) (by kernel_rfl) (by kernel_rfl) (fun c a w => (unhide HP) c a _ _ w) (Or.inl ⟨by rfl, ?_⟩) (by assumption) ?_
        rotate_left
        · intro wq hSw
          go_simp
          with_reducible rfl
        simp only [Act.put, List.setIfInBounds_toArray, List.set_cons_zero, List.set_cons_succ]
        refine wpAnyH_take (i := 21) (oi := { dst := some 71, op := Op.pick (Operand.tmp 64) (Operand.const (Value.bool true)) (Operand.tmp 70), type := 4, pos := "law.go:57", after := #[{ on := 14, ground := Ground.data }, { on := 20, ground := Ground.data }], guard := none }) (v := ?_) rfl (by kernel_rfl) (by kernel_rfl) (by kernel_rfl) (fun c a w => (unhide HP) c a _ _ w) (Or.inl ⟨by rfl, ?_⟩) (by assumption) ?_
        rotate_left
        · intro wq hSw
          go_simp
          with_reducible rfl
        simp only [Act.put, List.setIfInBounds_toArray, List.set_cons_zero, List.set_cons_succ]
        refine wpAnyH_take (i := 22) (oi := { dst := some 72, op := Op.move (Operand.tmp 71), type := 4, pos := "law.go:57", after := #[{ on := 21, ground := Ground.data }, { on := 18, ground := Ground.chain }], guard := none }) (v := ?_) rfl (by kernel_rfl) (by kernel_rfl) (by kernel_rfl) (fun c a w => (unhide HP) c a _ _ w) (Or.inl ⟨by rfl, ?_⟩) (by assumption) ?_
        rotate_left
        · intro wq hSw
          go_simp
          with_reducible rfl
        simp only [Act.put, List.setIfInBounds_toArray, List.set_cons_zero, List.set_cons_succ]
        refine wpAnyH_take (i := 23) (oi := { dst := some 73, op := Op.load 31 (Operand.tmp 4), type := 31, pos := "law.go:57", after := #[{ on := 22, ground := Ground.guard }], guard := some (22, false) }) (v := ?_) rfl (by kernel_rfl) (by kernel_rfl) (by kernel_rfl) (fun c a w => (unhide HP) c a _ _ w) (Or.inl ⟨by rfl, ?_⟩) (by assumption) ?_
        rotate_left
        · intro wq hSw
          go_simp
          with_reducible rfl
        simp only [Act.put, List.setIfInBounds_toArray, List.set_cons_zero, List.set_cons_succ]
        refine wpAnyH_take (i := 25) (oi := { dst := some 75, op := Op.load 31 (Operand.tmp 5), type := 31, pos := "law.go:57", after := #[{ on := 22, ground := Ground.guard }], guard := some (22, false) }) (v := ?_) rfl (by kernel_rfl) (by kernel_rfl) (by kernel_rfl) (fun c a w => (unhide HP) c a _ _ w) (Or.inl ⟨by rfl, ?_⟩) (by assumption) ?_
        rotate_left
        · intro wq hSw
          go_simp
          with_reducible rfl
        simp only [Act.put, List.setIfInBounds_toArray, List.set_cons_zero, List.set_cons_succ]
        refine wpAnyH_take (i := 30) (oi := { dst := some 80, op := Op.move (Operand.tmp 3), type := 23, pos := "law.go:57", after := #[{ on := 22, ground := Ground.guard }], guard := some (22, false) }) (v := ?_) rfl (by kernel_rfl) (by kernel_rfl) (by kernel_rfl) (fun c a w => (unhide HP) c a _ _ w) (Or.inl ⟨by rfl, ?_⟩) (by assumption) ?_
        rotate_left
        · intro wq hSw
          go_simp
          with_reducible rfl
        simp only [Act.put, List.setIfInBounds_toArray, List.set_cons_zero, List.set_cons_succ]
        refine wpAnyH_take (i := 32) (oi := { dst := some 82, op := Op.move (Operand.tmp 12), type := 4, pos := "law.go:57", after := #[{ on := 22, ground := Ground.guard }], guard := some (22, false) }) (v := ?_) rfl (by kernel_rfl) (by kernel_rfl) (by kernel_rfl) (fun c a w => (unhide HP) c a _ _ w) (Or.inl ⟨by rfl, ?_⟩) (by assumption) ?_
        rotate_left
        · intro wq hSw
          go_simp
          with_reducible rfl
        simp only [Act.put, List.setIfInBounds_toArray, List.set_cons_zero, List.set_cons_succ]
        refine wpAnyH_ready (rs := [24]) (by kernel_rfl) (by simp) ?_
        refine AllReadyH.cons (o := { dst := some 74, op := Op.call { callee := Callee.value (Operand.func 21), args := #[Operand.tmp 73], argTypes := #[31] }, type := 31, pos := "law.go:57", after := #[{ on := 23, ground := Ground.data }, { on := 22, ground := Ground.chain }, { on := 22, ground := Ground.guard }], guard := some (22, false) }) rfl (fun K hK => ?_) AllReadyH.nil
        go_simp
        refine (cNot a va _ ((unhide Na).keep (unhide R)) (by have := unhide HW; omega)).mono ?_
        rintro e W ⟨⟨v24, rfl, bn⟩, bb⟩
        simp only [Nv.val]
        clear hHeld
        refine hK.out _ _ (KS _ (below_sub (unhide R) bb)) (fun hHeld => ?_)
        clear hK K
        have R2 := hide (below_sub (unhide R) bb)
        have F16' := (hide ((unhide F16).keep (bb)))
        clear F16
        have F16 := F16'
        clear F16'
        have F24 := hide bn.toIn
        clear bn
        clear bb R
        have R := R2
        clear R2
        refine wpAnyH_ready (rs := [26]) (by kernel_rfl) (by simp) ?_
        refine AllReadyH.cons (o := { dst := some 76, op := Op.call { callee := Callee.value (Operand.func 21), args := #[Operand.tmp 75], argTypes := #[31] }, type := 31, pos := "law.go:57", after := #[{ on := 25, ground := Ground.data }, { on := 24, ground := Ground.chain }, { on := 22, ground := Ground.guard }], guard := some (22, false) }) rfl (fun K hK => ?_) AllReadyH.nil
        go_simp
        refine (cNot b vb _ ((unhide Nb).keep (unhide R)) (by have := unhide HW; omega)).mono ?_
        rintro e W ⟨⟨v26, rfl, bn⟩, bb⟩
        simp only [Nv.val]
        clear hHeld
        refine hK.out _ _ (KS _ (below_sub (unhide R) bb)) (fun hHeld => ?_)
        clear hK K
        have R2 := hide (below_sub (unhide R) bb)
        have F16' := (hide ((unhide F16).keep (bb)))
        clear F16
        have F16 := F16'
        clear F16'
        have F24' := (hide ((unhide F24).keep (bb)))
        clear F24
        have F24 := F24'
        clear F24'
        have F26 := hide bn.toIn
        clear bn
        clear bb R
        have R := R2
        clear R2
        refine wpAnyH_ready (rs := [27]) (by kernel_rfl) (by simp) ?_
        refine AllReadyH.cons (o := { dst := some 77, op := Op.buildSlice 22 2 #[(0, Operand.tmp 74), (1, Operand.tmp 76)], type := 22, pos := "law.go:57", after := #[{ on := 24, ground := Ground.data }, { on := 26, ground := Ground.data }, { on := 22, ground := Ground.guard }], guard := some (22, false) }) rfl (fun K hK => ?_) AllReadyH.nil
        go_simp
        clear hHeld
        refine hK.out _ _ (KS _ ((unhide R).alloc (unhide R).size _)) (fun hHeld => ?_)
        clear hK K
        have R2 := hide ((unhide R).alloc (unhide R).size (.cells #[.int .i64 v24.kind, .string v24.attr, .slice v24.qi v24.ni v24.ci, .slice v24.qw v24.nw v24.cw, .int .i64 v24.lo, .int .i64 v24.hi, .int .i64 v24.op, .slice v24.qk v24.nk v24.ck, .int .i64 v26.kind, .string v26.attr, .slice v26.qi v26.ni v26.ci, .slice v26.qw v26.nw v26.cw, .int .i64 v26.lo, .int .i64 v26.hi, .int .i64 v26.op, .slice v26.qk v26.nk v26.ck] 31))
        have H27 := hide (box_nw W (.cells #[.int .i64 v24.kind, .string v24.attr, .slice v24.qi v24.ni v24.ci, .slice v24.qw v24.nw v24.cw, .int .i64 v24.lo, .int .i64 v24.hi, .int .i64 v24.op, .slice v24.qk v24.nk v24.ck, .int .i64 v26.kind, .string v26.attr, .slice v26.qi v26.ni v26.ci, .slice v26.qw v26.nw v26.cw, .int .i64 v26.lo, .int .i64 v26.hi, .int .i64 v26.op, .slice v26.qk v26.nk v26.ck] 31))
        have F16' := (hide ((unhide F16).keep (((Below.refl W.heap.size W).alloc (Nat.le_refl _) (.cells #[.int .i64 v24.kind, .string v24.attr, .slice v24.qi v24.ni v24.ci, .slice v24.qw v24.nw v24.cw, .int .i64 v24.lo, .int .i64 v24.hi, .int .i64 v24.op, .slice v24.qk v24.nk v24.ck, .int .i64 v26.kind, .string v26.attr, .slice v26.qi v26.ni v26.ci, .slice v26.qw v26.nw v26.cw, .int .i64 v26.lo, .int .i64 v26.hi, .int .i64 v26.op, .slice v26.qk v26.nk v26.ck] 31)))))
        clear F16
        have F16 := F16'
        clear F16'
        have F24' := (hide ((unhide F24).keep (((Below.refl W.heap.size W).alloc (Nat.le_refl _) (.cells #[.int .i64 v24.kind, .string v24.attr, .slice v24.qi v24.ni v24.ci, .slice v24.qw v24.nw v24.cw, .int .i64 v24.lo, .int .i64 v24.hi, .int .i64 v24.op, .slice v24.qk v24.nk v24.ck, .int .i64 v26.kind, .string v26.attr, .slice v26.qi v26.ni v26.ci, .slice v26.qw v26.nw v26.cw, .int .i64 v26.lo, .int .i64 v26.hi, .int .i64 v26.op, .slice v26.qk v26.nk v26.ck] 31)))))
        clear F24
        have F24 := F24'
        clear F24'
        have F26' := (hide ((unhide F26).keep (((Below.refl W.heap.size W).alloc (Nat.le_refl _) (.cells #[.int .i64 v24.kind, .string v24.attr, .slice v24.qi v24.ni v24.ci, .slice v24.qw v24.nw v24.cw, .int .i64 v24.lo, .int .i64 v24.hi, .int .i64 v24.op, .slice v24.qk v24.nk v24.ck, .int .i64 v26.kind, .string v26.attr, .slice v26.qi v26.ni v26.ci, .slice v26.qw v26.nw v26.cw, .int .i64 v26.lo, .int .i64 v26.hi, .int .i64 v26.op, .slice v26.qk v26.nk v26.ck] 31)))))
        clear F26
        have F26 := F26'
        clear F26'
        obtain ⟨M27, eM27⟩ : ∃ m, W.heap.size = m := ⟨_, rfl⟩
        obtain ⟨W, eW⟩ : ∃ m, World.alloc W (.cells #[.int .i64 v24.kind, .string v24.attr, .slice v24.qi v24.ni v24.ci, .slice v24.qw v24.nw v24.cw, .int .i64 v24.lo, .int .i64 v24.hi, .int .i64 v24.op, .slice v24.qk v24.nk v24.ck, .int .i64 v26.kind, .string v26.attr, .slice v26.qi v26.ni v26.ci, .slice v26.qw v26.nw v26.cw, .int .i64 v26.lo, .int .i64 v26.hi, .int .i64 v26.op, .slice v26.qk v26.nk v26.ck] 31) = m := ⟨_, rfl⟩
        rw [eM27] at H27
        rw [eW] at R2 H27 hHeld F16 F24 F26
        rw [eW]
        simp only [eM27]
        clear R eW eM27
        have R := R2
        clear R2
        refine wpAnyH_ready (rs := [28]) (by kernel_rfl) (by simp) ?_
        refine AllReadyH.cons (o := { dst := some 78, op := Op.call { callee := Callee.value (Operand.func 20), args := #[Operand.tmp 77], argTypes := #[22] }, type := 31, pos := "law.go:57", after := #[{ on := 27, ground := Ground.data }, { on := 26, ground := Ground.chain }, { on := 22, ground := Ground.guard }], guard := some (22, false) }) rfl (fun K hK => ?_) AllReadyH.nil
        go_simp
        refine (cOr (notT a) (notT b) v24 v26 M27 _ (unhide H27) (unhide F24) (unhide F26) (by have := unhide HW; have := w1 a; have := w1 b; omega)).mono ?_
        rintro e W ⟨⟨v28, rfl, bn⟩, bb⟩
        simp only [Nv.val]
        clear hHeld
        refine hK.out _ _ (KS _ (below_sub (unhide R) bb)) (fun hHeld => ?_)
        clear hK K
        have R2 := hide (below_sub (unhide R) bb)
        have F16' := (hide ((unhide F16).keep (bb)))
        clear F16
        have F16 := F16'
        clear F16'
        have F24' := (hide ((unhide F24).keep (bb)))
        clear F24
        have F24 := F24'
        clear F24'
        have F26' := (hide ((unhide F26).keep (bb)))
        clear F26
        have F26 := F26'
        clear F26'
        have H27' := (hide (((bb).block _ (heap_lt (unhide H27))).trans (unhide H27)))
        clear H27
        have H27 := H27'
        clear H27'
        have F28 := hide bn.toIn
        clear bn
        clear bb R
        have R := R2
        clear R2
        refine wpAnyH_ready (rs := [29]) (by kernel_rfl) (by simp) ?_
        refine AllReadyH.cons (o := { dst := some 79, op := Op.call { callee := Callee.value (Operand.func 21), args := #[Operand.tmp 78], argTypes := #[31] }, type := 31, pos := "law.go:57", after := #[{ on := 28, ground := Ground.data }, { on := 28, ground := Ground.chain }, { on := 22, ground := Ground.guard }], guard := some (22, false) }) rfl (fun K hK => ?_) AllReadyH.nil
        go_simp
        refine (cNot (joinT 4 [(notT a), (notT b)]) v28 _ (unhide F28) (by have := unhide HW; have := w2 4 (notT a) (notT b); have := w1 a; have := w1 b; omega)).mono ?_
        rintro e W ⟨⟨v29, rfl, bn⟩, bb⟩
        simp only [Nv.val]
        clear hHeld
        refine hK.out _ _ (KS _ (below_sub (unhide R) bb)) (fun hHeld => ?_)
        clear hK K
        have R2 := hide (below_sub (unhide R) bb)
        have F16' := (hide ((unhide F16).keep (bb)))
        clear F16
        have F16 := F16'
        clear F16'
        have F24' := (hide ((unhide F24).keep (bb)))
        clear F24
        have F24 := F24'
        clear F24'
        have F26' := (hide ((unhide F26).keep (bb)))
        clear F26
        have F26 := F26'
        clear F26'
        have H27' := (hide (((bb).block _ (heap_lt (unhide H27))).trans (unhide H27)))
        clear H27
        have H27 := H27'
        clear H27'
        have F28' := (hide ((unhide F28).keep (bb)))
        clear F28
        have F28 := F28'
        clear F28'
        have F29 := hide bn.toIn
        clear bn
        clear bb R
        have R := R2
        clear R2
        refine wpAnyH_ready (rs := [31]) (by kernel_rfl) (by simp) ?_
        refine AllReadyH.cons (o := { dst := some 81, op := Op.call { callee := Callee.value (Operand.func 8), args := #[Operand.tmp 79, Operand.tmp 80], argTypes := #[31, 23] }, type := 4, pos := "law.go:57", after := #[{ on := 29, ground := Ground.data }, { on := 30, ground := Ground.data }, { on := 29, ground := Ground.chain }, { on := 22, ground := Ground.guard }], guard := some (22, false) }) rfl (fun K hK => ?_) AllReadyH.nil
        go_simp
        refine (cEv (notT (joinT 4 [(notT a), (notT b)])) v29 qe ce ev _ false (unhide F29) ((unhide HE).below (unhide R)) (ckN (joinT 4 [(notT a), (notT b)]) (ck2 4 (Or.inr rfl) (notT a) (notT b) (ckN a (unhide HCa)) (ckN b (unhide HCb)))) ((tN ev (joinT 4 [(notT a), (notT b)])).trans (congrArg not ((tO2 ev (notT a) (notT b)).trans (congr (congrArg or ((tN ev a).trans (congrArg not (unhide HXa)))) ((tN ev b).trans (congrArg not (unhide HXb))))))) (by have := unhide HW; have := w1 (joinT 4 [(notT a), (notT b)]); have := w2 4 (notT a) (notT b); have := w1 a; have := w1 b; omega) (unhide HL)).mono ?_
        rintro e W ⟨rfl, bb⟩
        clear hHeld
        refine hK.out _ _ (KS _ (below_sub (unhide R) bb)) (fun hHeld => ?_)
        clear hK K
        have R2 := hide (below_sub (unhide R) bb)
        have F16' := (hide ((unhide F16).keep (bb)))
        clear F16
        have F16 := F16'
        clear F16'
        have F24' := (hide ((unhide F24).keep (bb)))
        clear F24
        have F24 := F24'
        clear F24'
        have F26' := (hide ((unhide F26).keep (bb)))
        clear F26
        have F26 := F26'
        clear F26'
        have H27' := (hide (((bb).block _ (heap_lt (unhide H27))).trans (unhide H27)))
        clear H27
        have H27 := H27'
        clear H27'
        have F28' := (hide ((unhide F28).keep (bb)))
        clear F28
        have F28 := F28'
        clear F28'
        have F29' := (hide ((unhide F29).keep (bb)))
        clear F29
        have F29 := F29'
        clear F29'
        clear bb R
        have R := R2
        clear R2
        refine wpAnyH_take (i := 33) (oi := { dst := some 83, op := Op.binOp BinOp.neq 4 (Operand.tmp 81) (Operand.tmp 82) 4, type := 4, pos := "law.go:57", after := #[{ on := 31, ground := Ground.data }, { on := 32, ground := Ground.data }, { on := 22, ground := Ground.guard }], guard := some (22, false) }) (v := ?_) rfl (by kernel_rfl) (by kernel_rfl) (by kernel_rfl) (fun c a w => (unhide HP) c a _ _ w) (Or.inl ⟨by rfl, ?_⟩) (by assumption) ?_
        rotate_left
        · intro wq hSw
          go_simp
          with_reducible rfl
        simp only [Act.put, List.setIfInBounds_toArray, List.set_cons_zero, List.set_cons_succ]
        refine wpAnyH_take (i := 34) (oi := { dst := some 84, op := Op.pick (Operand.tmp 72) (Operand.const (Value.bool true)) (Operand.tmp 83), type := 4, pos := "law.go:57", after := #[{ on := 22, ground := Ground.data }, { on := 33, ground := Ground.data }], guard := none }) (v := ?_) rfl (by kernel_rfl) (by kernel_rfl) (by kernel_rfl) (fun c a w => (unhide HP) c a _ _ w) (Or.inl ⟨by rfl, ?_⟩) (by assumption) ?_
        rotate_left
        · intro wq hSw
          go_simp
          with_reducible rfl
        simp only [Act.put, List.setIfInBounds_toArray, List.set_cons_zero, List.set_cons_succ]
        refine wpAnyH_done (by kernel_rfl) ?_ _
        exact (unhide HQ) W _ _ _ _ _ _ _ _ _ _ _ _ _ _ _ _ _ _ _ _ _ _ _ _ _ _ _ _ _ _ _ _ _ _ (unhide R)
      · refine wpAnyH_take (i := 0) (oi := { dst := some 50, op := Op.move (Operand.tmp 12), type := 4, pos := "law.go:57", after := #[], guard := none }) (v := ?_) rfl (by kernel_rfl) (by kernel_rfl) (by kernel_rfl) (fun c a w => (unhide HP) c a _ _ w) (Or.inl ⟨by rfl, ?_⟩) (by assumption) ?_
        rotate_left
        · intro wq hSw
          go_simp
          with_reducible rfl
        simp only [Act.put, List.setIfInBounds_toArray, List.set_cons_zero, List.set_cons_succ]
        refine wpAnyH_take (i := 1) (oi := { dst := some 51, op := Op.move (Operand.tmp 9), type := 4, pos := "law.go:57", after := #[], guard := none }) (v := ?_) rfl (by kernel_rfl) (by kernel_rfl) (by kernel_rfl) (fun c a w => (unhide HP) c a _ _ w) (Or.inl ⟨by rfl, ?_⟩) (by assumption) ?_
        rotate_left
        · intro wq hSw
          go_simp
          with_reducible rfl
        simp only [Act.put, List.setIfInBounds_toArray, List.set_cons_zero, List.set_cons_succ]
        refine wpAnyH_take (i := 2) (oi := { dst := some 52, op := Op.move (Operand.tmp 51), type := 4, pos := "law.go:57", after := #[{ on := 1, ground := Ground.data }], guard := none }) (v := ?_) rfl (by kernel_rfl) (by kernel_rfl) (by kernel_rfl) (fun c a w => (unhide HP) c a _ _ w) (Or.inl ⟨by rfl, ?_⟩) (by assumption) ?_
        rotate_left
        · intro wq hSw
          go_simp
          with_reducible rfl
        simp only [Act.put, List.setIfInBounds_toArray, List.set_cons_zero, List.set_cons_succ]
        refine wpAnyH_take (i := 3) (oi := { dst := some 53, op := Op.move (Operand.tmp 10), type := 4, pos := "law.go:57", after := #[{ on := 2, ground := Ground.guard }], guard := some (2, true) }) (v := ?_) rfl (by kernel_rfl) (by kernel_rfl) (by kernel_rfl) (fun c a w => (unhide HP) c a _ _ w) (Or.inl ⟨by rfl, ?_⟩) (by assumption) ?_
        rotate_left
        · intro wq hSw
          go_simp
          with_reducible rfl
        simp only [Act.put, List.setIfInBounds_toArray, List.set_cons_zero, List.set_cons_succ]
        refine wpAnyH_take (i := 4) (oi := { dst := some 54, op := Op.pick (Operand.tmp 52) (Operand.tmp 53) (Operand.const (Value.bool false)), type := 4, pos := "law.go:57", after := #[{ on := 2, ground := Ground.data }, { on := 3, ground := Ground.data }], guard := none }) (v := ?_) rfl (by kernel_rfl) (by kernel_rfl) (by kernel_rfl) (fun c a w => (unhide HP) c a _ _ w) (Or.inl ⟨by rfl, ?_⟩) (by assumption) ?_
        rotate_left
        · intro wq hSw
          go_simp
          with_reducible rfl
        simp only [Act.put, List.setIfInBounds_toArray, List.set_cons_zero, List.set_cons_succ]
        refine wpAnyH_take (i := 5) (oi := { dst := some 55, op := Op.binOp BinOp.neq 4 (Operand.tmp 50) (Operand.tmp 54) 4, type := 4, pos := "law.go:57", after := #[{ on := 0, ground := Ground.data }, { on := 4, ground := Ground.data }], guard := none }) (v := ?_) rfl (by kernel_rfl) (by kernel_rfl) (by kernel_rfl) (fun c a w => (unhide HP) c a _ _ w) (Or.inl ⟨by rfl, ?_⟩) (by assumption) ?_
        rotate_left
        · intro wq hSw
          go_simp
          with_reducible rfl
        simp only [Act.put, List.setIfInBounds_toArray, List.set_cons_zero, List.set_cons_succ]
        refine wpAnyH_take (i := 6) (oi := { dst := some 56, op := Op.move (Operand.tmp 55), type := 4, pos := "law.go:57", after := #[{ on := 5, ground := Ground.data }, { on := 2, ground := Ground.chain }], guard := none }) (v := ?_) rfl (by kernel_rfl) (by kernel_rfl) (by kernel_rfl) (fun c a w => (unhide HP) c a _ _ w) (Or.inl ⟨by rfl, ?_⟩) (by assumption) ?_
        rotate_left
        · intro wq hSw
          go_simp
          with_reducible rfl
        simp only [Act.put, List.setIfInBounds_toArray, List.set_cons_zero, List.set_cons_succ]
        refine wpAnyH_take (i := 7) (oi := { dst := some 57, op := Op.move (Operand.tmp 13), type := 4, pos := "law.go:57", after := #[{ on := 6, ground := Ground.guard }], guard := some (6, false) }) (v := ?_) rfl (by kernel_rfl) (by kernel_rfl) (by kernel_rfl) (fun c a w => (unhide HP) c a _ _ w) (Or.inl ⟨by rfl, ?_⟩) (by assumption) ?_
        rotate_left
        · intro wq hSw
          go_simp
          with_reducible rfl
        simp only [Act.put, List.setIfInBounds_toArray, List.set_cons_zero, List.set_cons_succ]
        refine wpAnyH_take (i := 8) (oi := { dst := some 58, op := Op.move (Operand.tmp 9), type := 4, pos := "law.go:57", after := #[{ on := 6, ground := Ground.guard }], guard := some (6, false) }) (v := ?_) rfl (by kernel_rfl) (by kernel_rfl) (by kernel_rfl) (fun c a w => (unhide HP) c a _ _ w) (Or.inl ⟨by rfl, ?_⟩) (by assumption) ?_
        rotate_left
        · intro wq hSw
          go_simp
          with_reducible rfl
        simp only [Act.put, List.setIfInBounds_toArray, List.set_cons_zero, List.set_cons_succ]
        refine wpAnyH_take (i := 9) (oi := { dst := some 59, op := Op.move (Operand.tmp 58), type := 4, pos := "law.go:57", after := #[{ on := 8, ground := Ground.data }, { on := 6, ground := Ground.chain }, { on := 6, ground := Ground.guard }], guard := some (6, false) }) (v := ?_) rfl (by kernel_rfl) (by kernel_rfl) (by kernel_rfl) (fun c a w => (unhide HP) c a _ _ w) (Or.inl ⟨by rfl, ?_⟩) (by assumption) ?_
        rotate_left
        · intro wq hSw
          go_simp
          with_reducible rfl
        simp only [Act.put, List.setIfInBounds_toArray, List.set_cons_zero, List.set_cons_succ]
        refine wpAnyH_take (i := 10) (oi := { dst := some 60, op := Op.move (Operand.tmp 10), type := 4, pos := "law.go:57", after := #[{ on := 9, ground := Ground.guard }], guard := some (9, false) }) (v := undef) rfl (by kernel_rfl) (by kernel_rfl) (by kernel_rfl) (fun c a w => (unhide HP) c a _ _ w) (Or.inr ⟨by rfl, rfl⟩) (by assumption) ?_
        simp only [Act.put, List.setIfInBounds_toArray, List.set_cons_zero, List.set_cons_succ]
        refine wpAnyH_take (i := 11) (oi := { dst := some 61, op := Op.pick (Operand.tmp 59) (Operand.const (Value.bool true)) (Operand.tmp 60), type := 4, pos := "law.go:57", after := #[{ on := 9, ground := Ground.data }, { on := 10, ground := Ground.data }, { on := 6, ground := Ground.guard }], guard := some (6, false) }) (v := ?_) rfl (by kernel_rfl) (by kernel_rfl) (by kernel_rfl) (fun c a w => (unhide HP) c a _ _ w) (Or.inl ⟨by rfl, ?_⟩) (by assumption) ?_
        rotate_left
        · intro wq hSw
          go_simp
          with_reducible rfl
        simp only [Act.put, List.setIfInBounds_toArray, List.set_cons_zero, List.set_cons_succ]
        refine wpAnyH_take (i := 12) (oi := { dst := some 62, op := Op.binOp BinOp.neq 4 (Operand.tmp 57) (Operand.tmp 61) 4, type := 4, pos := "law.go:57", after := #[{ on := 7, ground := Ground.data }, { on := 11, ground := Ground.data }, { on := 6, ground := Ground.guard }], guard := some (6, false) }) (v := ?_) rfl (by kernel_rfl) (by kernel_rfl) (by kernel_rfl) (fun c a w => (unhide HP) c a _ _ w) (Or.inl ⟨by rfl, ?_⟩) (by assumption) ?_
        rotate_left
        · intro wq hSw
          go_simp
          with_reducible rfl
        simp only [Act.put, List.setIfInBounds_toArray, List.set_cons_zero, List.set_cons_succ]
        refine wpAnyH_take (i := 13) (oi := { dst := some 63, op := Op.pick (Operand.tmp 56) (Operand.const (Value.bool true)) (Operand.tmp 62), type := 4, pos := "law.go:57", after := #[{ on := 6, ground := Ground.data }, { on := 12, ground := Ground.data }], guard := none }) (v := ?_) rfl (by kernel_rfl) (by kernel_rfl) (by kernel_rfl) (fun c a w => (unhide HP) c a _ _ w) (Or.inl ⟨by rfl, ?_⟩) (by assumption) ?_
        rotate_left
        · intro wq hSw
          go_simp
          with_reducible rfl
        simp only [Act.put, List.setIfInBounds_toArray, List.set_cons_zero, List.set_cons_succ]
        refine wpAnyH_take (i := 14) (oi := { dst := some 64, op := Op.move (Operand.tmp 63), type := 4, pos := "law.go:57", after := #[{ on := 13, ground := Ground.data }, { on := 9, ground := Ground.chain }], guard := none }) (v := ?_) rfl (by kernel_rfl) (by kernel_rfl) (by kernel_rfl) (fun c a w => (unhide HP) c a _ _ w) (Or.inl ⟨by rfl, ?_⟩) (by assumption) ?_
        rotate_left
        · intro wq hSw
          go_simp
          with_reducible rfl
        simp only [Act.put, List.setIfInBounds_toArray, List.set_cons_zero, List.set_cons_succ]
        refine wpAnyH_take (i := 15) (oi := { dst := some 65, op := Op.load 31 (Operand.tmp 4), type := 31, pos := "law.go:57", after := #[{ on := 14, ground := Ground.guard }], guard := some (14, false) }) (v := ?_) rfl (by kernel_rfl) (by kernel_rfl) (by kernel_rfl) (fun c a w => (unhide HP) c a _ _ w) (Or.inl ⟨by rfl, ?_⟩) (by assumption) ?_
        rotate_left
        · intro wq hSw
          go_simp
          with_reducible rfl
        simp only [Act.put, List.setIfInBounds_toArray, List.set_cons_zero, List.set_cons_succ]
        refine wpAnyH_take (i := 17) (oi := { dst := some 67, op := Op.move (Operand.tmp 3), type := 23, pos := "law.go:57", after := #[{ on := 14, ground := Ground.guard }], guard := some (14, false) }) (v := ?_) rfl (by kernel_rfl) (by kernel_rfl) (by kernel_rfl) (fun c a w => (unhide HP) c a _ _ w) (Or.inl ⟨by rfl, ?_⟩) (by assumption) ?_
        rotate_left
        · intro wq hSw
          go_simp
          with_reducible rfl
        simp only [Act.put, List.setIfInBounds_toArray, List.set_cons_zero, List.set_cons_succ]
        refine wpAnyH_take (i := 19) (oi := { dst := some 69, op := Op.move (Operand.tmp 9), type := 4, pos := "law.go:57", after := #[{ on := 14, ground := Ground.guard }], guard := some (14, false) }) (v := ?_) rfl (by kernel_rfl) (by kernel_rfl) (by kernel_rfl) (fun c a w => (unhide HP) c a _ _ w) (Or.inl ⟨by rfl, ?_⟩) (by assumption) ?_
        rotate_left
        · intro wq hSw
          go_simp
          with_reducible rfl
        simp only [Act.put, List.setIfInBounds_toArray, List.set_cons_zero, List.set_cons_succ]
        refine wpAnyH_ready (rs := [16]) (by kernel_rfl) (by simp) ?_
        refine AllReadyH.cons (o := { dst := some 66, op := Op.call { callee := Callee.value (Operand.func 21), args := #[Operand.tmp 65], argTypes := #[31] }, type := 31, pos := "law.go:57", after := #[{ on := 15, ground := Ground.data }, { on := 14, ground := Ground.chain }, { on := 14, ground := Ground.guard }], guard := some (14, false) }) rfl (fun K hK => ?_) AllReadyH.nil
        go_simp
        refine (cNot a va _ ((unhide Na).keep (unhide R)) (by have := unhide HW; omega)).mono ?_
        rintro e W ⟨⟨v16, rfl, bn⟩, bb⟩
        simp only [Nv.val]
        clear hHeld
        refine hK.out _ _ (KS _ (below_sub (unhide R) bb)) (fun hHeld => ?_)
        clear hK K
        have R2 := hide (below_sub (unhide R) bb)
        have F16 := hide bn.toIn
        clear bn
        clear bb R
        have R := R2
        clear R2
        refine wpAnyH_ready (rs := [18]) (by kernel_rfl) (by simp) ?_
        refine AllReadyH.cons (o := { dst := some 68, op := Op.call { callee := Callee.value (Operand.func 8), args := #[Operand.tmp 66, Operand.tmp 67], argTypes := #[31, 23] }, type := 4, pos := "law.go:57", after := #[{ on := 16, ground := Ground.data }, { on := 17, ground := Ground.data }, { on := 16, ground := Ground.chain }, { on := 14, ground := Ground.guard }], guard := some (14, false) }) rfl (fun K hK => ?_) AllReadyH.nil
        go_simp
        refine (cEv (notT a) v16 qe ce ev _ false (unhide F16) ((unhide HE).below (unhide R)) (ckN a (unhide HCa)) ((tN ev a).trans (congrArg not (unhide HXa))) (by have := unhide HW; have := w1 a; omega) (unhide HL)).mono ?_
        rintro e W ⟨rfl, bb⟩
        clear hHeld
        refine hK.out _ _ (KS _ (below_sub (unhide R) bb)) (fun hHeld => ?_)
        clear hK K
        have R2 := hide (below_sub (unhide R) bb)
        have F16' := (hide ((unhide F16).keep (bb)))
        clear F16
        have F16 := F16'
        clear F16'
        clear bb R
        have R := R2
        clear R2
        refine wpAnyH_take (i := 20) (oi := { dst := some 70, op := Op.binOp BinOp.eql 4 (Operand.tmp 68) (Operand.tmp 69) 4, type := 4, pos := "law.go:57", after := #[{ on := 18, ground := Ground.data }, { on := 19, ground := Ground.data }, { on := 14, ground := Ground.guard }], guard := some (14, false) }) (v := ?_) rfl (by kernel_rfl) (by kernel_rfl) (by kernel_rfl) (fun c a w => (unhide HP) c a _ _ w) (Or.inl ⟨by rfl, ?_⟩) (by assumption) ?_
        rotate_left
        · intro wq hSw
          go_simp
          with_reducible rfl
        simp only [Act.put, List.setIfInBounds_toArray, List.set_cons_zero, List.set_cons_succ]
        refine wpAnyH_take (i := 21) (oi := { dst := some 71, op := Op.pick (Operand.tmp 64) (Operand.const (Value.bool true)) (Operand.tmp 70), type := 4, pos := "law.go:57", after := #[{ on := 14, ground := Ground.data }, { on := 20, ground := Ground.data }], guard := none }) (v := ?_) rfl (by kernel_rfl) (by kernel_rfl) (by kernel_rfl) (fun c a w => (unhide HP) c a _ _ w) (Or.inl ⟨by rfl, ?_⟩) (by assumption) ?_
        rotate_left
        · intro wq hSw
          go_simp
          with_reducible rfl
        simp only [Act.put, List.setIfInBounds_toArray, List.set_cons_zero, List.set_cons_succ]
        refine wpAnyH_take (i := 22) (oi := { dst := some 72, op := Op.move (Operand.tmp 71), type := 4, pos := "law.go:57", after := #[{ on := 21, ground := Ground.data }, { on := 18, ground := Ground.chain }], guard := none }) (v := ?_) rfl (by kernel_rfl) (by kernel_rfl) (by kernel_rfl) (fun c a w => (unhide HP) c a _ _ w) (Or.inl ⟨by rfl, ?_⟩) (by assumption) ?_
        rotate_left
        · intro wq hSw
          go_simp
          with_reducible rfl
        simp only [Act.put, List.setIfInBounds_toArray, List.set_cons_zero, List.set_cons_succ]
        refine wpAnyH_take (i := 23) (oi := { dst := some 73, op := Op.load 31 (Operand.tmp 4), type := 31, pos := "law.go:57", after := #[{ on := 22, ground := Ground.guard }], guard := some (22, false) }) (v := ?_) rfl (by kernel_rfl) (by kernel_rfl) (by kernel_rfl) (fun c a w => (unhide HP) c a _ _ w) (Or.inl ⟨by rfl, ?_⟩) (by assumption) ?_
        rotate_left
        · intro wq hSw
          go_simp
          with_reducible rfl
        simp only [Act.put, List.setIfInBounds_toArray, List.set_cons_zero, List.set_cons_succ]
        refine wpAnyH_take (i := 25) (oi := { dst := some 75, op := Op.load 31 (Operand.tmp 5), type := 31, pos := "law.go:57", after := #[{ on := 22, ground := Ground.guard }], guard := some (22, false) }) (v := ?_) rfl (by kernel_rfl) (by kernel_rfl) (by kernel_rfl) (fun c a w => (unhide HP) c a _ _ w) (Or.inl ⟨by rfl, ?_⟩) (by assumption) ?_
        rotate_left
        · intro wq hSw
          go_simp
          with_reducible rfl
        simp only [Act.put, List.setIfInBounds_toArray, List.set_cons_zero, List.set_cons_succ]
        refine wpAnyH_take (i := 30) (oi := { dst := some 80, op := Op.move (Operand.tmp 3), type := 23, pos := "law.go:57", after := #[{ on := 22, ground := Ground.guard }], guard := some (22, false) }) (v := ?_) rfl (by kernel_rfl) (by kernel_rfl) (by kernel_rfl) (fun c a w => (unhide HP) c a _ _ w) (Or.inl ⟨by rfl, ?_⟩) (by assumption) ?_
        rotate_left
        · intro wq hSw
          go_simp
          with_reducible rfl
        simp only [Act.put, List.setIfInBounds_toArray, List.set_cons_zero, List.set_cons_succ]
        refine wpAnyH_take (i := 32) (oi := { dst := some 82, op := Op.move (Operand.tmp 12), type := 4, pos := "law.go:57", after := #[{ on := 22, ground := Ground.guard }], guard := some (22, false) }) (v := ?_) rfl (by kernel_rfl) (by kernel_rfl) (by kernel_rfl) (fun c a w => (unhide HP) c a _ _ w) (Or.inl ⟨by rfl, ?_⟩) (by assumption) ?_
        rotate_left
        · intro wq hSw
          go_simp
          with_reducible rfl
        simp only [Act.put, List.setIfInBounds_toArray, List.set_cons_zero, List.set_cons_succ]
        refine wpAnyH_ready (rs := [24]) (by kernel_rfl) (by simp) ?_
        refine AllReadyH.cons (o := { dst := some 74, op := Op.call { callee := Callee.value (Operand.func 21), args := #[Operand.tmp 73], argTypes := #[31] }, type := 31, pos := "law.go:57", after := #[{ on := 23, ground := Ground.data }, { on := 22, ground := Ground.chain }, { on := 22, ground := Ground.guard }], guard := some (22, false) }) rfl (fun K hK => ?_) AllReadyH.nil
        go_simp
        refine (cNot a va _ ((unhide Na).keep (unhide R)) (by have := unhide HW; omega)).mono ?_
        rintro e W ⟨⟨v24, rfl, bn⟩, bb⟩
        simp only [Nv.val]
        clear hHeld
        refine hK.out _ _ (KS _ (below_sub (unhide R) bb)) (fun hHeld => ?_)
        clear hK K
        have R2 := hide (below_sub (unhide R) bb)
        have F16' := (hide ((unhide F16).keep (bb)))
        clear F16
        have F16 := F16'
        clear F16'
        have F24 := hide bn.toIn
        clear bn
        clear bb R
        have R := R2
        clear R2
        refine wpAnyH_ready (rs := [26]) (by kernel_rfl) (by simp) ?_
        refine AllReadyH.cons (o := { dst := some 76, op := Op.call { callee := Callee.value (Operand.func 21), args := #[Operand.tmp 75], argTypes := #[31] }, type := 31, pos := "law.go:57", after := #[{ on := 25, ground := Ground.data }, { on := 24, ground := Ground.chain }, { on := 22, ground := Ground.guard }], guard := some (22, false) }) rfl (fun K hK => ?_) AllReadyH.nil
        go_simp
        refine (cNot b vb _ ((unhide Nb).keep (unhide R)) (by have := unhide HW; omega)).mono ?_
        rintro e W ⟨⟨v26, rfl, bn⟩, bb⟩
        simp only [Nv.val]
        clear hHeld
        refine hK.out _ _ (KS _ (below_sub (unhide R) bb)) (fun hHeld => ?_)
        clear hK K
        have R2 := hide (below_sub (unhide R) bb)
        have F16' := (hide ((unhide F16).keep (bb)))
        clear F16
        have F16 := F16'
        clear F16'
        have F24' := (hide ((unhide F24).keep (bb)))
        clear F24
        have F24 := F24'
        clear F24'
        have F26 := hide bn.toIn
        clear bn
        clear bb R
        have R := R2
        clear R2
        refine wpAnyH_ready (rs := [27]) (by kernel_rfl) (by simp) ?_
        refine AllReadyH.cons (o := { dst := some 77, op := Op.buildSlice 22 2 #[(0, Operand.tmp 74), (1, Operand.tmp 76)], type := 22, pos := "law.go:57", after := #[{ on := 24, ground := Ground.data }, { on := 26, ground := Ground.data }, { on := 22, ground := Ground.guard }], guard := some (22, false) }) rfl (fun K hK => ?_) AllReadyH.nil
        go_simp
        clear hHeld
        refine hK.out _ _ (KS _ ((unhide R).alloc (unhide R).size _)) (fun hHeld => ?_)
        clear hK K
        have R2 := hide ((unhide R).alloc (unhide R).size (.cells #[.int .i64 v24.kind, .string v24.attr, .slice v24.qi v24.ni v24.ci, .slice v24.qw v24.nw v24.cw, .int .i64 v24.lo, .int .i64 v24.hi, .int .i64 v24.op, .slice v24.qk v24.nk v24.ck, .int .i64 v26.kind, .string v26.attr, .slice v26.qi v26.ni v26.ci, .slice v26.qw v26.nw v26.cw, .int .i64 v26.lo, .int .i64 v26.hi, .int .i64 v26.op, .slice v26.qk v26.nk v26.ck] 31))
        have H27 := hide (box_nw W (.cells #[.int .i64 v24.kind, .string v24.attr, .slice v24.qi v24.ni v24.ci, .slice v24.qw v24.nw v24.cw, .int .i64 v24.lo, .int .i64 v24.hi, .int .i64 v24.op, .slice v24.qk v24.nk v24.ck, .int .i64 v26.kind, .string v26.attr, .slice v26.qi v26.ni v26.ci, .slice v26.qw v26.nw v26.cw, .int .i64 v26.lo, .int .i64 v26.hi, .int .i64 v26.op, .slice v26.qk v26.nk v26.ck] 31))
        have F16' := (hide ((unhide F16).keep (((Below.refl W.heap.size W).alloc (Nat.le_refl _) (.cells #[.int .i64 v24.kind, .string v24.attr, .slice v24.qi v24.ni v24.ci, .slice v24.qw v24.nw v24.cw, .int .i64 v24.lo, .int .i64 v24.hi, .int .i64 v24.op, .slice v24.qk v24.nk v24.ck, .int .i64 v26.kind, .string v26.attr, .slice v26.qi v26.ni v26.ci, .slice v26.qw v26.nw v26.cw, .int .i64 v26.lo, .int .i64 v26.hi, .int .i64 v26.op, .slice v26.qk v26.nk v26.ck] 31)))))
        clear F16
        have F16 := F16'
        clear F16'
        have F24' := (hide ((unhide F24).keep (((Below.refl W.heap.size W).alloc (Nat.le_refl _) (.cells #[.int .i64 v24.kind, .string v24.attr, .slice v24.qi v24.ni v24.ci, .slice v24.qw v24.nw v24.cw, .int .i64 v24.lo, .int .i64 v24.hi, .int .i64 v24.op, .slice v24.qk v24.nk v24.ck, .int .i64 v26.kind, .string v26.attr, .slice v26.qi v26.ni v26.ci, .slice v26.qw v26.nw v26.cw, .int .i64 v26.lo, .int .i64 v26.hi, .int .i64 v26.op, .slice v26.qk v26.nk v26.ck] 31)))))
        clear F24
        have F24 := F24'
        clear F24'
        have F26' := (hide ((unhide F26).keep (((Below.refl W.heap.size W).alloc (Nat.le_refl _) (.cells #[.int .i64 v24.kind, .string v24.attr, .slice v24.qi v24.ni v24.ci, .slice v24.qw v24.nw v24.cw, .int .i64 v24.lo, .int .i64 v24.hi, .int .i64 v24.op, .slice v24.qk v24.nk v24.ck, .int .i64 v26.kind, .string v26.attr, .slice v26.qi v26.ni v26.ci, .slice v26.qw v26.nw v26.cw, .int .i64 v26.lo, .int .i64 v26.hi, .int .i64 v26.op, .slice v26.qk v26.nk v26.ck] 31)))))
        clear F26
        have F26 := F26'
        clear F26'
        obtain ⟨M27, eM27⟩ : ∃ m, W.heap.size = m := ⟨_, rfl⟩
        obtain ⟨W, eW⟩ : ∃ m, World.alloc W (.cells #[.int .i64 v24.kind, .string v24.attr, .slice v24.qi v24.ni v24.ci, .slice v24.qw v24.nw v24.cw, .int .i64 v24.lo, .int .i64 v24.hi, .int .i64 v24.op, .slice v24.qk v24.nk v24.ck, .int .i64 v26.kind, .string v26.attr, .slice v26.qi v26.ni v26.ci, .slice v26.qw v26.nw v26.cw, .int .i64 v26.lo, .int .i64 v26.hi, .int .i64 v26.op, .slice v26.qk v26.nk v26.ck] 31) = m := ⟨_, rfl⟩
        rw [eM27] at H27
        rw [eW] at R2 H27 hHeld F16 F24 F26
        rw [eW]
        simp only [eM27]
        clear R eW eM27
        have R := R2
        clear R2
        refine wpAnyH_ready (rs := [28]) (by kernel_rfl) (by simp) ?_
        refine AllReadyH.cons (o := { dst := some 78, op := Op.call { callee := Callee.value (Operand.func 20), args := #[Operand.tmp 77], argTypes := #[22] }, type := 31, pos := "law.go:57", after := #[{ on := 27, ground := Ground.data }, { on := 26, ground := Ground.chain }, { on := 22, ground := Ground.guard }], guard := some (22, false) }) rfl (fun K hK => ?_) AllReadyH.nil
        go_simp
        refine (cOr (notT a) (notT b) v24 v26 M27 _ (unhide H27) (unhide F24) (unhide F26) (by have := unhide HW; have := w1 a; have := w1 b; omega)).mono ?_
        rintro e W ⟨⟨v28, rfl, bn⟩, bb⟩
        simp only [Nv.val]
        clear hHeld
        refine hK.out _ _ (KS _ (below_sub (unhide R) bb)) (fun hHeld => ?_)
        clear hK K
        have R2 := hide (below_sub (unhide R) bb)
        have F16' := (hide ((unhide F16).keep (bb)))
        clear F16
        have F16 := F16'
        clear F16'
        have F24' := (hide ((unhide F24).keep (bb)))
        clear F24
        have F24 := F24'
        clear F24'
        have F26' := (hide ((unhide F26).keep (bb)))
        clear F26
        have F26 := F26'
        clear F26'
        have H27' := (hide (((bb).block _ (heap_lt (unhide H27))).trans (unhide H27)))
        clear H27
        have H27 := H27'
        clear H27'
        have F28 := hide bn.toIn
        clear bn
        clear bb R
        have R := R2
        clear R2
        refine wpAnyH_ready (rs := [29]) (by kernel_rfl) (by simp) ?_
        refine AllReadyH.cons (o := { dst := some 79, op := Op.call { callee := Callee.value (Operand.func 21), args := #[Operand.tmp 78], argTypes := #[31] }, type := 31, pos := "law.go:57", after := #[{ on := 28, ground := Ground.data }, { on := 28, ground := Ground.chain }, { on := 22, ground := Ground.guard }], guard := some (22, false) }) rfl (fun K hK => ?_) AllReadyH.nil
        go_simp
        refine (cNot (joinT 4 [(notT a), (notT b)]) v28 _ (unhide F28) (by have := unhide HW; have := w2 4 (notT a) (notT b); have := w1 a; have := w1 b; omega)).mono ?_
        rintro e W ⟨⟨v29, rfl, bn⟩, bb⟩
        simp only [Nv.val]
        clear hHeld
        refine hK.out _ _ (KS _ (below_sub (unhide R) bb)) (fun hHeld => ?_)
        clear hK K
        have R2 := hide (below_sub (unhide R) bb)
        have F16' := (hide ((unhide F16).keep (bb)))
        clear F16
        have F16 := F16'
        clear F16'
        have F24' := (hide ((unhide F24).keep (bb)))
        clear F24
        have F24 := F24'
        clear F24'
        have F26' := (hide ((unhide F26).keep (bb)))
        clear F26
        have F26 := F26'
        clear F26'
        have H27' := (hide (((bb).block _ (heap_lt (unhide H27))).trans (unhide H27)))
        clear H27
        have H27 := H27'
        clear H27'
        have F28' := (hide ((unhide F28).keep (bb)))
        clear F28
        have F28 := F28'
        clear F28'
        have F29 := hide bn.toIn
        clear bn
        clear bb R
        have R := R2
        clear R2
        refine wpAnyH_ready (rs := [31]) (by kernel_rfl) (by simp) ?_
        refine AllReadyH.cons (o := { dst := some 81, op := Op.call { callee := Callee.value (Operand.func 8), args := #[Operand.tmp 79, Operand.tmp 80], argTypes := #[31, 23] }, type := 4, pos := "law.go:57", after := #[{ on := 29, ground := Ground.data }, { on := 30, ground := Ground.data }, { on := 29, ground := Ground.chain }, { on := 22, ground := Ground.guard }], guard := some (22, false) }) rfl (fun K hK => ?_) AllReadyH.nil
        go_simp
        refine (cEv (notT (joinT 4 [(notT a), (notT b)])) v29 qe ce ev _ true (unhide F29) ((unhide HE).below (unhide R)) (ckN (joinT 4 [(notT a), (notT b)]) (ck2 4 (Or.inr rfl) (notT a) (notT b) (ckN a (unhide HCa)) (ckN b (unhide HCb)))) ((tN ev (joinT 4 [(notT a), (notT b)])).trans (congrArg not ((tO2 ev (notT a) (notT b)).trans (congr (congrArg or ((tN ev a).trans (congrArg not (unhide HXa)))) ((tN ev b).trans (congrArg not (unhide HXb))))))) (by have := unhide HW; have := w1 (joinT 4 [(notT a), (notT b)]); have := w2 4 (notT a) (notT b); have := w1 a; have := w1 b; omega) (unhide HL)).mono ?_
        rintro e W ⟨rfl, bb⟩
        clear hHeld
        refine hK.out _ _ (KS _ (below_sub (unhide R) bb)) (fun hHeld => ?_)
        clear hK K
        have R2 := hide (below_sub (unhide R) bb)
        have F16' := (hide ((unhide F16).keep (bb)))
        clear F16
        have F16 := F16'
        clear F16'
        have F24' := (hide ((unhide F24).keep (bb)))
        clear F24
        have F24 := F24'
        clear F24'
        have F26' := (hide ((unhide F26).keep (bb)))
        clear F26
        have F26 := F26'
        clear F26'
        have H27' := (hide (((bb).block _ (heap_lt (unhide H27))).trans (unhide H27)))
        clear H27
        have H27 := H27'
        clear H27'
        have F28' := (hide ((unhide F28).keep (bb)))
        clear F28
        have F28 := F28'
        clear F28'
        have F29' := (hide ((unhide F29).keep (bb)))
        clear F29
        have F29 := F29'
        clear F29'
        clear bb R
        have R := R2
        clear R2
        refine wpAnyH_take (i := 33) (oi := { dst := some 83, op := Op.binOp BinOp.neq 4 (Operand.tmp 81) (Operand.tmp 82) 4, type := 4, pos := "law.go:57", after := #[{ on := 31, ground := Ground.data }, { on := 32, ground := Ground.data }, { on := 22, ground := Ground.guard }], guard := some (22, false) }) (v := ?_) rfl (by kernel_rfl) (by kernel_rfl) (by kernel_rfl) (fun c a w => (unhide HP) c a _ _ w) (Or.inl ⟨by rfl, ?_⟩) (by assumption) ?_
        rotate_left
        · intro wq hSw
          go_simp
          with_reducible rfl
        simp only [Act.put, List.setIfInBounds_toArray, List.set_cons_zero, List.set_cons_succ]
        refine wpAnyH_take (i := 34) (oi := { dst := some 84, op := Op.pick (Operand.tmp 72) (Operand.const (Value.bool true)) (Operand.tmp 83), type := 4, pos := "law.go:57", after := #[{ on := 22, ground := Ground.data }, { on := 33, ground := Ground.data }], guard := none }) (v := ?_) rfl (by kernel_rfl) (by kernel_rfl) (by kernel_rfl) (fun c a w => (unhide HP) c a _ _ w) (Or.inl ⟨by rfl, ?_⟩) (by assumption) ?_
        rotate_left
        · intro wq hSw
          go_simp
          with_reducible rfl
        simp only [Act.put, List.setIfInBounds_toArray, List.set_cons_zero, List.set_cons_succ]
        refine wpAnyH_done (by kernel_rfl) ?_ _
        exact (unhide HQ) W _ _ _ _ _ _ _ _ _ _ _ _ _ _ _ _ _ _ _ _ _ _ _ _ _ _ _ _ _ _ _ _ _ _ (unhide R)
    )
  exact dp_to (unhide st0 _ (hide (Below.refl _ _).drew)) (by kernel_rfl) rfl
end Go.Proofs.Ytkpdhkdegoincaa

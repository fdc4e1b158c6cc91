/- Region 11 of the law EvalRules: every order of its operations. -/
import Derived.Test.YtkpdhkdegoincaaRulesHelp
namespace Go.Proofs.Ytkpdhkdegoincaa
open Go.RowKit Go.Sort

set_option maxRecDepth 100000 in
set_option maxHeartbeats 40000000 in
theorem reg11 (a b c : Nd) (va vb vc : Nv) (A B C : Nat) (qe : Option Addr) (ce : Nat) (ev : List Pr) (x y z : Bool) (U : World)
    (hA : U.heap[A]? = some (.cells #[.int .i64 va.kind, .string va.attr, .slice va.qi va.ni va.ci, .slice va.qw va.nw va.cw, .int .i64 va.lo, .int .i64 va.hi, .int .i64 va.op, .slice va.qk va.nk va.ck] 31 (0, 0))) (hB : U.heap[B]? = some (.cells #[.int .i64 vb.kind, .string vb.attr, .slice vb.qi vb.ni vb.ci, .slice vb.qw vb.nw vb.cw, .int .i64 vb.lo, .int .i64 vb.hi, .int .i64 vb.op, .slice vb.qk vb.nk vb.ck] 31 (0, 0))) (hC : U.heap[C]? = some (.cells #[.int .i64 vc.kind, .string vc.attr, .slice vc.qi vc.ni vc.ci, .slice vc.qw vc.nw vc.cw, .int .i64 vc.lo, .int .i64 vc.hi, .int .i64 vc.op, .slice vc.qk vc.nk vc.ck] 31 (0, 0)))
    (na : NdIn U va a) (nb : NdIn U vb b) (nc : NdIn U vc c) (he : SlOf encP 4 U qe ce ev) (hca : chkN a = true) (hcb : chkN b = true) (hcc : chkN c = true)
    (hw : wtN a + wtN b + wtN c ≤ 30000000) (hl : ev.length ≤ 100000000000000) (hx : truN ev a = x) (hy : truN ev b = y) (hz : truN ev c = z)
    (s0 s1 s2 s7 s8 s14 s15 s16 s17 s18 s19 s20 s21 s22 s23 s24 s25 s26 s27 s28 s29 s30 s31 s32 s33 s34 s35 s36 s37 s38 s39 s40 s41 s42 s43 s44 s45 s46 s47 s48 s49 s50 s51 s52 s53 s54 s55 s56 s57 s58 s59 s60 s61 s62 s63 s64 s65 s66 s67 s68 s69 s70 s71 s72 s73 s74 s75 s76 s77 s78 s79 s80 s81 s82 s83 s84 s85 s86 s87 s88 s89 s90 s91 s92 s93 s94 s95 s96 s97 s98 s99 s100 s101 s102 s103 s104 s105 s106 s107 s108 s109 s110 s111 s112 s113 s114 s115 s116 s117 s118 s119 s120 s121 s122 s123 s124 s125 s126 s127 s128 s129 s130 s131 s132 s133 s134 s135 s136 s137 s138 s139 s140 s141 s142 s143 s144 s145 s146 s147 s148 s149 s150 s151 s152 s153 s154 s155 : Value) (d : List Deferred) (Q : Exit → Act → World → Prop) (hP : ∀ c (a : Act) o v w, Q (.panic c) (a.put o v) w → Q (.panic c) a w)
    (hQ : ∀ (W : World) (t115 t116 t117 t118 t119 t120 t121 t122 t123 t124 t125 t126 t127 t128 t129 t130 t131 t132 t133 t134 t135 t136 t137 t138 t139 t140 t141 t142 t143 t144 t145 t146 t147 t148 t149 t150 t151 t152 t153 t154 t155 : Value), Below U.heap.size U W → Q .normal (Act.mk #[s0, s1, s2, .slice qe ev.length ce, .pointer (some ⟨A, 0, none⟩), .pointer (some ⟨B, 0, none⟩), .pointer (some ⟨C, 0, none⟩), s7, .bool true, .bool x, .bool y, .bool z, .bool (x && y), .bool (x || y), s14, s15, s16, s17, s18, s19, s20, s21, s22, s23, s24, s25, s26, s27, s28, s29, s30, s31, s32, s33, s34, s35, s36, s37, s38, s39, s40, s41, s42, s43, s44, s45, s46, s47, s48, s49, s50, s51, s52, s53, s54, s55, s56, s57, s58, s59, s60, s61, s62, s63, s64, s65, s66, s67, s68, s69, s70, s71, s72, s73, s74, s75, s76, s77, s78, s79, s80, s81, s82, s83, s84, s85, s86, s87, s88, s89, s90, s91, s92, s93, s94, s95, s96, s97, s98, s99, s100, s101, s102, s103, s104, s105, s106, s107, s108, s109, s110, s111, s112, s113, s114, t115, t116, t117, t118, t119, t120, t121, t122, t123, t124, t125, t126, t127, t128, t129, t130, t131, t132, t133, t134, t135, t136, t137, t138, t139, t140, t141, t142, t143, t144, t145, t146, t147, t148, t149, t150, t151, t152, t153, t154, t155] d) W) :
    (Code.region 11 #[{ dst := some 115, op := Op.load 31 (Operand.tmp 4), type := 31, pos := "law.go:63", after := #[], guard := none }, { dst := some 116, op := Op.load 31 (Operand.tmp 5), type := 31, pos := "law.go:63", after := #[], guard := none }, { dst := some 117, op := Op.load 31 (Operand.tmp 6), type := 31, pos := "law.go:63", after := #[], guard := none }, { dst := some 118, op := Op.buildSlice 22 2 #[(0, Operand.tmp 116), (1, Operand.tmp 117)], type := 22, pos := "law.go:63", after := #[{ on := 1, ground := Ground.data }, { on := 2, ground := Ground.data }], guard := none }, { dst := some 119, op := Op.call { callee := Callee.value (Operand.func 20), args := #[Operand.tmp 118], argTypes := #[22] }, type := 31, pos := "law.go:63", after := #[{ on := 3, ground := Ground.data }], guard := none }, { dst := some 120, op := Op.buildSlice 22 2 #[(0, Operand.tmp 115), (1, Operand.tmp 119)], type := 22, pos := "law.go:63", after := #[{ on := 0, ground := Ground.data }, { on := 4, ground := Ground.data }], guard := none }, { dst := some 121, op := Op.call { callee := Callee.value (Operand.func 19), args := #[Operand.tmp 120], argTypes := #[22] }, type := 31, pos := "law.go:63", after := #[{ on := 5, ground := Ground.data }, { on := 4, ground := Ground.chain }], guard := none }, { dst := some 122, op := Op.move (Operand.tmp 3), type := 23, pos := "law.go:63", after := #[], guard := none }, { dst := some 123, op := Op.call { callee := Callee.value (Operand.func 8), args := #[Operand.tmp 121, Operand.tmp 122], argTypes := #[31, 23] }, type := 4, pos := "law.go:63", after := #[{ on := 6, ground := Ground.data }, { on := 7, ground := Ground.data }, { on := 6, ground := Ground.chain }], guard := none }, { dst := some 124, op := Op.load 31 (Operand.tmp 4), type := 31, pos := "law.go:63", after := #[], guard := none }, { dst := some 125, op := Op.load 31 (Operand.tmp 5), type := 31, pos := "law.go:63", after := #[], guard := none }, { dst := some 126, op := Op.buildSlice 22 2 #[(0, Operand.tmp 124), (1, Operand.tmp 125)], type := 22, pos := "law.go:63", after := #[{ on := 9, ground := Ground.data }, { on := 10, ground := Ground.data }], guard := none }, { dst := some 127, op := Op.call { callee := Callee.value (Operand.func 19), args := #[Operand.tmp 126], argTypes := #[22] }, type := 31, pos := "law.go:63", after := #[{ on := 11, ground := Ground.data }, { on := 8, ground := Ground.chain }], guard := none }, { dst := some 128, op := Op.load 31 (Operand.tmp 4), type := 31, pos := "law.go:63", after := #[], guard := none }, { dst := some 129, op := Op.load 31 (Operand.tmp 6), type := 31, pos := "law.go:63", after := #[], guard := none }, { dst := some 130, op := Op.buildSlice 22 2 #[(0, Operand.tmp 128), (1, Operand.tmp 129)], type := 22, pos := "law.go:63", after := #[{ on := 13, ground := Ground.data }, { on := 14, ground := Ground.data }], guard := none }, { dst := some 131, op := Op.call { callee := Callee.value (Operand.func 19), args := #[Operand.tmp 130], argTypes := #[22] }, type := 31, pos := "law.go:63", after := #[{ on := 15, ground := Ground.data }, { on := 12, ground := Ground.chain }], guard := none }, { dst := some 132, op := Op.buildSlice 22 2 #[(0, Operand.tmp 127), (1, Operand.tmp 131)], type := 22, pos := "law.go:63", after := #[{ on := 12, ground := Ground.data }, { on := 16, ground := Ground.data }], guard := none }, { dst := some 133, op := Op.call { callee := Callee.value (Operand.func 20), args := #[Operand.tmp 132], argTypes := #[22] }, type := 31, pos := "law.go:63", after := #[{ on := 17, ground := Ground.data }, { on := 16, ground := Ground.chain }], guard := none }, { dst := some 134, op := Op.move (Operand.tmp 3), type := 23, pos := "law.go:63", after := #[], guard := none }, { dst := some 135, op := Op.call { callee := Callee.value (Operand.func 8), args := #[Operand.tmp 133, Operand.tmp 134], argTypes := #[31, 23] }, type := 4, pos := "law.go:63", after := #[{ on := 18, ground := Ground.data }, { on := 19, ground := Ground.data }, { on := 18, ground := Ground.chain }], guard := none }, { dst := some 136, op := Op.binOp BinOp.eql 4 (Operand.tmp 123) (Operand.tmp 135) 4, type := 4, pos := "law.go:63", after := #[{ on := 8, ground := Ground.data }, { on := 20, ground := Ground.data }], guard := none }, { dst := some 137, op := Op.move (Operand.tmp 136), type := 4, pos := "law.go:63", after := #[{ on := 21, ground := Ground.data }, { on := 20, ground := Ground.chain }], guard := none }, { dst := some 138, op := Op.move (Operand.tmp 9), type := 4, pos := "law.go:63", after := #[{ on := 22, ground := Ground.guard }], guard := some (22, true) }, { dst := some 139, op := Op.move (Operand.tmp 138), type := 4, pos := "law.go:63", after := #[{ on := 23, ground := Ground.data }, { on := 22, ground := Ground.chain }, { on := 22, ground := Ground.guard }], guard := some (22, true) }, { dst := some 140, op := Op.move (Operand.tmp 10), type := 4, pos := "law.go:63", after := #[{ on := 24, ground := Ground.guard }], guard := some (24, true) }, { dst := some 141, op := Op.move (Operand.tmp 140), type := 4, pos := "law.go:63", after := #[{ on := 25, ground := Ground.data }, { on := 24, ground := Ground.chain }, { on := 24, ground := Ground.guard }], guard := some (24, true) }, { dst := some 142, op := Op.move (Operand.tmp 11), type := 4, pos := "law.go:63", after := #[{ on := 26, ground := Ground.guard }], guard := some (26, false) }, { dst := some 143, op := Op.pick (Operand.tmp 141) (Operand.const (Value.bool true)) (Operand.tmp 142), type := 4, pos := "law.go:63", after := #[{ on := 26, ground := Ground.data }, { on := 27, ground := Ground.data }, { on := 24, ground := Ground.guard }], guard := some (24, true) }, { dst := some 144, op := Op.pick (Operand.tmp 139) (Operand.tmp 143) (Operand.const (Value.bool false)), type := 4, pos := "law.go:63", after := #[{ on := 24, ground := Ground.data }, { on := 28, ground := Ground.data }, { on := 22, ground := Ground.guard }], guard := some (22, true) }, { dst := some 145, op := Op.load 31 (Operand.tmp 4), type := 31, pos := "law.go:63", after := #[{ on := 22, ground := Ground.guard }], guard := some (22, true) }, { dst := some 146, op := Op.load 31 (Operand.tmp 5), type := 31, pos := "law.go:63", after := #[{ on := 22, ground := Ground.guard }], guard := some (22, true) }, { dst := some 147, op := Op.load 31 (Operand.tmp 6), type := 31, pos := "law.go:63", after := #[{ on := 22, ground := Ground.guard }], guard := some (22, true) }, { dst := some 148, op := Op.buildSlice 22 2 #[(0, Operand.tmp 146), (1, Operand.tmp 147)], type := 22, pos := "law.go:63", after := #[{ on := 31, ground := Ground.data }, { on := 32, ground := Ground.data }, { on := 22, ground := Ground.guard }], guard := some (22, true) }, { dst := some 149, op := Op.call { callee := Callee.value (Operand.func 20), args := #[Operand.tmp 148], argTypes := #[22] }, type := 31, pos := "law.go:63", after := #[{ on := 33, ground := Ground.data }, { on := 26, ground := Ground.chain }, { on := 22, ground := Ground.guard }], guard := some (22, true) }, { dst := some 150, op := Op.buildSlice 22 2 #[(0, Operand.tmp 145), (1, Operand.tmp 149)], type := 22, pos := "law.go:63", after := #[{ on := 30, ground := Ground.data }, { on := 34, ground := Ground.data }, { on := 22, ground := Ground.guard }], guard := some (22, true) }, { dst := some 151, op := Op.call { callee := Callee.value (Operand.func 19), args := #[Operand.tmp 150], argTypes := #[22] }, type := 31, pos := "law.go:63", after := #[{ on := 35, ground := Ground.data }, { on := 34, ground := Ground.chain }, { on := 22, ground := Ground.guard }], guard := some (22, true) }, { dst := some 152, op := Op.move (Operand.tmp 3), type := 23, pos := "law.go:63", after := #[{ on := 22, ground := Ground.guard }], guard := some (22, true) }, { dst := some 153, op := Op.call { callee := Callee.value (Operand.func 8), args := #[Operand.tmp 151, Operand.tmp 152], argTypes := #[31, 23] }, type := 4, pos := "law.go:63", after := #[{ on := 36, ground := Ground.data }, { on := 37, ground := Ground.data }, { on := 36, ground := Ground.chain }, { on := 22, ground := Ground.guard }], guard := some (22, true) }, { dst := some 154, op := Op.binOp BinOp.eql 4 (Operand.tmp 144) (Operand.tmp 153) 4, type := 4, pos := "law.go:63", after := #[{ on := 29, ground := Ground.data }, { on := 38, ground := Ground.data }, { on := 22, ground := Ground.guard }], guard := some (22, true) }, { dst := some 155, op := Op.pick (Operand.tmp 137) (Operand.tmp 154) (Operand.const (Value.bool false)), type := 4, pos := "law.go:63", after := #[{ on := 22, ground := Ground.data }, { on := 39, ground := Ground.data }], guard := none }, { dst := some 8, op := Op.assign (Operand.tmp 155), type := 4, pos := "law.go:63", after := #[{ on := 40, ground := Ground.data }, { on := 38, ground := Ground.chain }, { on := 0, ground := Ground.phase }, { on := 1, ground := Ground.phase }, { on := 2, ground := Ground.phase }, { on := 3, ground := Ground.phase }, { on := 4, ground := Ground.phase }, { on := 5, ground := Ground.phase }, { on := 6, ground := Ground.phase }, { on := 7, ground := Ground.phase }, { on := 8, ground := Ground.phase }, { on := 9, ground := Ground.phase }, { on := 10, ground := Ground.phase }, { on := 11, ground := Ground.phase }, { on := 12, ground := Ground.phase }, { on := 13, ground := Ground.phase }, { on := 14, ground := Ground.phase }, { on := 15, ground := Ground.phase }, { on := 16, ground := Ground.phase }, { on := 17, ground := Ground.phase }, { on := 18, ground := Ground.phase }, { on := 19, ground := Ground.phase }, { on := 20, ground := Ground.phase }, { on := 21, ground := Ground.phase }, { on := 22, ground := Ground.phase }, { on := 23, ground := Ground.phase }, { on := 24, ground := Ground.phase }, { on := 25, ground := Ground.phase }, { on := 26, ground := Ground.phase }, { on := 27, ground := Ground.phase }, { on := 28, ground := Ground.phase }, { on := 29, ground := Ground.phase }, { on := 30, ground := Ground.phase }, { on := 31, ground := Ground.phase }, { on := 32, ground := Ground.phase }, { on := 33, ground := Ground.phase }, { on := 34, ground := Ground.phase }, { on := 35, ground := Ground.phase }, { on := 36, ground := Ground.phase }, { on := 37, ground := Ground.phase }, { on := 38, ground := Ground.phase }, { on := 39, ground := Ground.phase }, { on := 40, ground := Ground.phase }], guard := none }] true).wp Try.prog Q (Act.mk #[s0, s1, s2, .slice qe ev.length ce, .pointer (some ⟨A, 0, none⟩), .pointer (some ⟨B, 0, none⟩), .pointer (some ⟨C, 0, none⟩), s7, s8, .bool x, .bool y, .bool z, .bool (x && y), .bool (x || y), s14, s15, s16, s17, s18, s19, s20, s21, s22, s23, s24, s25, s26, s27, s28, s29, s30, s31, s32, s33, s34, s35, s36, s37, s38, s39, s40, s41, s42, s43, s44, s45, s46, s47, s48, s49, s50, s51, s52, s53, s54, s55, s56, s57, s58, s59, s60, s61, s62, s63, s64, s65, s66, s67, s68, s69, s70, s71, s72, s73, s74, s75, s76, s77, s78, s79, s80, s81, s82, s83, s84, s85, s86, s87, s88, s89, s90, s91, s92, s93, s94, s95, s96, s97, s98, s99, s100, s101, s102, s103, s104, s105, s106, s107, s108, s109, s110, s111, s112, s113, s114, s115, s116, s117, s118, s119, s120, s121, s122, s123, s124, s125, s126, s127, s128, s129, s130, s131, s132, s133, s134, s135, s136, s137, s138, s139, s140, s141, s142, s143, s144, s145, s146, s147, s148, s149, s150, s151, s152, s153, s154, s155] d) U := by
  have KS : ∀ W, Below U.heap.size U W → (fun w' => w'.cell? ⟨A, 0, none⟩ = some (.int .i64 va.kind) ∧ w'.cell? ⟨A, 1, none⟩ = some (.string va.attr) ∧ w'.cell? ⟨A, 2, none⟩ = some (.slice va.qi va.ni va.ci) ∧ w'.cell? ⟨A, 3, none⟩ = some (.slice va.qw va.nw va.cw) ∧ w'.cell? ⟨A, 4, none⟩ = some (.int .i64 va.lo) ∧ w'.cell? ⟨A, 5, none⟩ = some (.int .i64 va.hi) ∧ w'.cell? ⟨A, 6, none⟩ = some (.int .i64 va.op) ∧ w'.cell? ⟨A, 7, none⟩ = some (.slice va.qk va.nk va.ck) ∧ w'.cell? ⟨B, 0, none⟩ = some (.int .i64 vb.kind) ∧ w'.cell? ⟨B, 1, none⟩ = some (.string vb.attr) ∧ w'.cell? ⟨B, 2, none⟩ = some (.slice vb.qi vb.ni vb.ci) ∧ w'.cell? ⟨B, 3, none⟩ = some (.slice vb.qw vb.nw vb.cw) ∧ w'.cell? ⟨B, 4, none⟩ = some (.int .i64 vb.lo) ∧ w'.cell? ⟨B, 5, none⟩ = some (.int .i64 vb.hi) ∧ w'.cell? ⟨B, 6, none⟩ = some (.int .i64 vb.op) ∧ w'.cell? ⟨B, 7, none⟩ = some (.slice vb.qk vb.nk vb.ck) ∧ w'.cell? ⟨C, 0, none⟩ = some (.int .i64 vc.kind) ∧ w'.cell? ⟨C, 1, none⟩ = some (.string vc.attr) ∧ w'.cell? ⟨C, 2, none⟩ = some (.slice vc.qi vc.ni vc.ci) ∧ w'.cell? ⟨C, 3, none⟩ = some (.slice vc.qw vc.nw vc.cw) ∧ w'.cell? ⟨C, 4, none⟩ = some (.int .i64 vc.lo) ∧ w'.cell? ⟨C, 5, none⟩ = some (.int .i64 vc.hi) ∧ w'.cell? ⟨C, 6, none⟩ = some (.int .i64 vc.op) ∧ w'.cell? ⟨C, 7, none⟩ = some (.slice vc.qk vc.nk vc.ck)) W := fun W hb => by
    obtain ⟨a0, a1, a2, a3, a4, a5, a6, a7⟩ := of8' ((hb.block _ (heap_lt hA)).trans hA)
    obtain ⟨b0, b1, b2, b3, b4, b5, b6, b7⟩ := of8' ((hb.block _ (heap_lt hB)).trans hB)
    obtain ⟨c0, c1, c2, c3, c4, c5, c6, c7⟩ := of8' ((hb.block _ (heap_lt hC)).trans hC)
    exact ⟨a0, a1, a2, a3, a4, a5, a6, a7, b0, b1, b2, b3, b4, b5, b6, b7, c0, c1, c2, c3, c4, c5, c6, c7⟩
  have Na := hide na
  have Nb := hide nb
  have Nc := hide nc
  have HE := hide he
  have HCa := hide hca
  have HCb := hide hcb
  have HCc := hide hcc
  have HW := hide hw
  have HL := hide hl
  have HXa := hide hx
  have HXb := hide hy
  have HXc := hide hz
  have HQ := hide hQ
  have HP := hide hP
  clear hP
  have kf : ∀ W, Hid (Below U.heap.size U W) → W = W := fun _ _ => rfl
  clear hA hB hC na nb nc he hca hcb hcc hw hl hx hy hz hQ kf
  refine wp_region_held_drew (S := fun w' => w'.cell? ⟨A, 0, none⟩ = some (.int .i64 va.kind) ∧ w'.cell? ⟨A, 1, none⟩ = some (.string va.attr) ∧ w'.cell? ⟨A, 2, none⟩ = some (.slice va.qi va.ni va.ci) ∧ w'.cell? ⟨A, 3, none⟩ = some (.slice va.qw va.nw va.cw) ∧ w'.cell? ⟨A, 4, none⟩ = some (.int .i64 va.lo) ∧ w'.cell? ⟨A, 5, none⟩ = some (.int .i64 va.hi) ∧ w'.cell? ⟨A, 6, none⟩ = some (.int .i64 va.op) ∧ w'.cell? ⟨A, 7, none⟩ = some (.slice va.qk va.nk va.ck) ∧ w'.cell? ⟨B, 0, none⟩ = some (.int .i64 vb.kind) ∧ w'.cell? ⟨B, 1, none⟩ = some (.string vb.attr) ∧ w'.cell? ⟨B, 2, none⟩ = some (.slice vb.qi vb.ni vb.ci) ∧ w'.cell? ⟨B, 3, none⟩ = some (.slice vb.qw vb.nw vb.cw) ∧ w'.cell? ⟨B, 4, none⟩ = some (.int .i64 vb.lo) ∧ w'.cell? ⟨B, 5, none⟩ = some (.int .i64 vb.hi) ∧ w'.cell? ⟨B, 6, none⟩ = some (.int .i64 vb.op) ∧ w'.cell? ⟨B, 7, none⟩ = some (.slice vb.qk vb.nk vb.ck) ∧ w'.cell? ⟨C, 0, none⟩ = some (.int .i64 vc.kind) ∧ w'.cell? ⟨C, 1, none⟩ = some (.string vc.attr) ∧ w'.cell? ⟨C, 2, none⟩ = some (.slice vc.qi vc.ni vc.ci) ∧ w'.cell? ⟨C, 3, none⟩ = some (.slice vc.qw vc.nw vc.cw) ∧ w'.cell? ⟨C, 4, none⟩ = some (.int .i64 vc.lo) ∧ w'.cell? ⟨C, 5, none⟩ = some (.int .i64 vc.hi) ∧ w'.cell? ⟨C, 6, none⟩ = some (.int .i64 vc.op) ∧ w'.cell? ⟨C, 7, none⟩ = some (.slice vc.qk vc.nk vc.ck)) (by kernel_rfl) (KS _ (Below.refl _ _).drew) (fun hHeld => ?_)
  clear hHeld
  refine dp_start ?_
  intro F hF
  have st0 : Hid (∀ (W : World) (M3 : Nat) (v4 : Nv) (M5 : Nat) (v6 : Nv) (M11 : Nat) (v12 : Nv) (M15 : Nat) (v16 : Nv) (M17 : Nat) (v18 : Nv), Hid (Below U.heap.size U W) → Hid (W.heap[M3]? = some (.cells #[.int .i64 vb.kind, .string vb.attr, .slice vb.qi vb.ni vb.ci, .slice vb.qw vb.nw vb.cw, .int .i64 vb.lo, .int .i64 vb.hi, .int .i64 vb.op, .slice vb.qk vb.nk vb.ck, .int .i64 vc.kind, .string vc.attr, .slice vc.qi vc.ni vc.ci, .slice vc.qw vc.nw vc.cw, .int .i64 vc.lo, .int .i64 vc.hi, .int .i64 vc.op, .slice vc.qk vc.nk vc.ck] 31 (0, 0))) → Hid (NdIn W v4 (joinT 4 [b, c])) → Hid (W.heap[M5]? = some (.cells #[.int .i64 va.kind, .string va.attr, .slice va.qi va.ni va.ci, .slice va.qw va.nw va.cw, .int .i64 va.lo, .int .i64 va.hi, .int .i64 va.op, .slice va.qk va.nk va.ck, .int .i64 v4.kind, .string v4.attr, .slice v4.qi v4.ni v4.ci, .slice v4.qw v4.nw v4.cw, .int .i64 v4.lo, .int .i64 v4.hi, .int .i64 v4.op, .slice v4.qk v4.nk v4.ck] 31 (0, 0))) → Hid (NdIn W v6 (joinT 3 [a, (joinT 4 [b, c])])) → Hid (W.heap[M11]? = some (.cells #[.int .i64 va.kind, .string va.attr, .slice va.qi va.ni va.ci, .slice va.qw va.nw va.cw, .int .i64 va.lo, .int .i64 va.hi, .int .i64 va.op, .slice va.qk va.nk va.ck, .int .i64 vb.kind, .string vb.attr, .slice vb.qi vb.ni vb.ci, .slice vb.qw vb.nw vb.cw, .int .i64 vb.lo, .int .i64 vb.hi, .int .i64 vb.op, .slice vb.qk vb.nk vb.ck] 31 (0, 0))) → Hid (NdIn W v12 (joinT 3 [a, b])) → Hid (W.heap[M15]? = some (.cells #[.int .i64 va.kind, .string va.attr, .slice va.qi va.ni va.ci, .slice va.qw va.nw va.cw, .int .i64 va.lo, .int .i64 va.hi, .int .i64 va.op, .slice va.qk va.nk va.ck, .int .i64 vc.kind, .string vc.attr, .slice vc.qi vc.ni vc.ci, .slice vc.qw vc.nw vc.cw, .int .i64 vc.lo, .int .i64 vc.hi, .int .i64 vc.op, .slice vc.qk vc.nk vc.ck] 31 (0, 0))) → Hid (NdIn W v16 (joinT 3 [a, c])) → Hid (W.heap[M17]? = some (.cells #[.int .i64 v12.kind, .string v12.attr, .slice v12.qi v12.ni v12.ci, .slice v12.qw v12.nw v12.cw, .int .i64 v12.lo, .int .i64 v12.hi, .int .i64 v12.op, .slice v12.qk v12.nk v12.ck, .int .i64 v16.kind, .string v16.attr, .slice v16.qi v16.ni v16.ci, .slice v16.qw v16.nw v16.cw, .int .i64 v16.lo, .int .i64 v16.hi, .int .i64 v16.op, .slice v16.qk v16.nk v16.ck] 31 (0, 0))) → Hid (NdIn W v18 (joinT 4 [(joinT 3 [a, b]), (joinT 3 [a, c])])) → F 21 #[true, true, true, true, true, true, true, true, true, true, true, true, true, true, true, true, true, true, true, true, true, false, false, false, false, false, false, false, false, false, false, false, false, false, false, false, false, false, false, false, false, false] (Act.mk #[s0, s1, s2, .slice qe ev.length ce, .pointer (some ⟨A, 0, none⟩), .pointer (some ⟨B, 0, none⟩), .pointer (some ⟨C, 0, none⟩), s7, s8, .bool x, .bool y, .bool z, .bool (x && y), .bool (x || y), s14, s15, s16, s17, s18, s19, s20, s21, s22, s23, s24, s25, s26, s27, s28, s29, s30, s31, s32, s33, s34, s35, s36, s37, s38, s39, s40, s41, s42, s43, s44, s45, s46, s47, s48, s49, s50, s51, s52, s53, s54, s55, s56, s57, s58, s59, s60, s61, s62, s63, s64, s65, s66, s67, s68, s69, s70, s71, s72, s73, s74, s75, s76, s77, s78, s79, s80, s81, s82, s83, s84, s85, s86, s87, s88, s89, s90, s91, s92, s93, s94, s95, s96, s97, s98, s99, s100, s101, s102, s103, s104, s105, s106, s107, s108, s109, s110, s111, s112, s113, s114, .agg #[.int .i64 va.kind, .string va.attr, .slice va.qi va.ni va.ci, .slice va.qw va.nw va.cw, .int .i64 va.lo, .int .i64 va.hi, .int .i64 va.op, .slice va.qk va.nk va.ck], .agg #[.int .i64 vb.kind, .string vb.attr, .slice vb.qi vb.ni vb.ci, .slice vb.qw vb.nw vb.cw, .int .i64 vb.lo, .int .i64 vb.hi, .int .i64 vb.op, .slice vb.qk vb.nk vb.ck], .agg #[.int .i64 vc.kind, .string vc.attr, .slice vc.qi vc.ni vc.ci, .slice vc.qw vc.nw vc.cw, .int .i64 vc.lo, .int .i64 vc.hi, .int .i64 vc.op, .slice vc.qk vc.nk vc.ck], .slice (some ⟨M3, 0, none⟩) 2 2, .agg #[.int .i64 v4.kind, .string v4.attr, .slice v4.qi v4.ni v4.ci, .slice v4.qw v4.nw v4.cw, .int .i64 v4.lo, .int .i64 v4.hi, .int .i64 v4.op, .slice v4.qk v4.nk v4.ck], .slice (some ⟨M5, 0, none⟩) 2 2, .agg #[.int .i64 v6.kind, .string v6.attr, .slice v6.qi v6.ni v6.ci, .slice v6.qw v6.nw v6.cw, .int .i64 v6.lo, .int .i64 v6.hi, .int .i64 v6.op, .slice v6.qk v6.nk v6.ck], .slice qe ev.length ce, .bool (x && (y || z)), .agg #[.int .i64 va.kind, .string va.attr, .slice va.qi va.ni va.ci, .slice va.qw va.nw va.cw, .int .i64 va.lo, .int .i64 va.hi, .int .i64 va.op, .slice va.qk va.nk va.ck], .agg #[.int .i64 vb.kind, .string vb.attr, .slice vb.qi vb.ni vb.ci, .slice vb.qw vb.nw vb.cw, .int .i64 vb.lo, .int .i64 vb.hi, .int .i64 vb.op, .slice vb.qk vb.nk vb.ck], .slice (some ⟨M11, 0, none⟩) 2 2, .agg #[.int .i64 v12.kind, .string v12.attr, .slice v12.qi v12.ni v12.ci, .slice v12.qw v12.nw v12.cw, .int .i64 v12.lo, .int .i64 v12.hi, .int .i64 v12.op, .slice v12.qk v12.nk v12.ck], .agg #[.int .i64 va.kind, .string va.attr, .slice va.qi va.ni va.ci, .slice va.qw va.nw va.cw, .int .i64 va.lo, .int .i64 va.hi, .int .i64 va.op, .slice va.qk va.nk va.ck], .agg #[.int .i64 vc.kind, .string vc.attr, .slice vc.qi vc.ni vc.ci, .slice vc.qw vc.nw vc.cw, .int .i64 vc.lo, .int .i64 vc.hi, .int .i64 vc.op, .slice vc.qk vc.nk vc.ck], .slice (some ⟨M15, 0, none⟩) 2 2, .agg #[.int .i64 v16.kind, .string v16.attr, .slice v16.qi v16.ni v16.ci, .slice v16.qw v16.nw v16.cw, .int .i64 v16.lo, .int .i64 v16.hi, .int .i64 v16.op, .slice v16.qk v16.nk v16.ck], .slice (some ⟨M17, 0, none⟩) 2 2, .agg #[.int .i64 v18.kind, .string v18.attr, .slice v18.qi v18.ni v18.ci, .slice v18.qw v18.nw v18.cw, .int .i64 v18.lo, .int .i64 v18.hi, .int .i64 v18.op, .slice v18.qk v18.nk v18.ck], .slice qe ev.length ce, .bool ((x && y) || (x && z)), s136, s137, s138, s139, s140, s141, s142, s143, s144, s145, s146, s147, s148, s149, s150, s151, s152, s153, s154, s155] d) W) := hide (by
    intro W M3 v4 M5 v6 M11 v12 M15 v16 M17 v18 R H3 F4 H5 F6 H11 F12 H15 F16 H17 F18
    refine Eq.mpr (hF _ _ _ _) ?_
    have hHeld := KS W (unhide R)
    skip
    cases x
    · refine wpAnyH_take (i := 21) (oi := { dst := some 136, op := Op.binOp BinOp.eql 4 (Operand.tmp 123) (Operand.tmp 135) 4, type := 4, pos := "law.go:63", after := #[{ on := 8, ground := Ground.data }, { on := 20, ground := Ground.data }], guard := none }) (v := ?_) rfl (by kernel_rfl) (by kernel_rfl) (by kernel_rfl) (fun c a w => (unhide HP) c a _ _ w) (Or.inl ⟨by rfl, ?_⟩) (by assumption) ?_
      rotate_left
      · intro wq hSw
        go_simp
        with_reducible rfl
      simp only [Act.put, List.setIfInBounds_toArray, List.set_cons_zero, List.set_cons_succ]
      refine wpAnyH_take (i := 22) (oi := { dst := some 137, op := Op.move (Operand.tmp 136), type := 4, pos := "law.go:63", after := #[{ on := 21, ground := Ground.data }, { on := 20, ground := Ground.chain }], guard := none }) (v := ?_) rfl (by kernel_rfl) (by kernel_rfl) (by kernel_rfl) (fun c a w => (unhide HP) c a _ _ w) (Or.inl ⟨by rfl, ?_⟩) (by assumption) ?_
      rotate_left
      · intro wq hSw
        go_simp
        with_reducible rfl
      simp only [Act.put, List.setIfInBounds_toArray, List.set_cons_zero, List.set_cons_succ]
      refine wpAnyH_take (i := 23) (oi := { dst := some 138, op := Op.move (Operand.tmp 9), type := 4, pos := "law.go:63", after := #[{ on := 22, ground := Ground.guard }], guard := some (22, true) }) (v := ?_) rfl (by kernel_rfl) (by kernel_rfl) (by kernel_rfl) (fun c a w => (unhide HP) c a _ _ w) (Or.inl ⟨by rfl, ?_⟩) (by assumption) ?_
      rotate_left
      · intro wq hSw
        go_simp
        with_reducible rfl
      simp only [Act.put, List.setIfInBounds_toArray, List.set_cons_zero, List.set_cons_succ]
      refine wpAnyH_take (i := 24) (oi := { dst := some 139, op := Op.move (Operand.tmp 138), type := 4, pos := "law.go:63", after := #[{ on := 23, ground := Ground.data }, { on := 22, ground := Ground.chain }, { on := 22, ground := Ground.guard }], guard := some (22, true) }) (v := ?_) rfl (by kernel_rfl) (by kernel_rfl) (by kernel_rfl) (fun c a w => (unhide HP) c a _ _ w) (Or.inl ⟨by rfl, ?_⟩) (by assumption) ?_
      rotate_left
      · intro wq hSw
        go_simp
        with_reducible rfl
      simp only [Act.put, List.setIfInBounds_toArray, List.set_cons_zero, List.set_cons_succ]
      refine wpAnyH_take (i := 25) (oi := { dst := some 140, op := Op.move (Operand.tmp 10), type := 4, pos := "law.go:63", after := #[{ on := 24, ground := Ground.guard }], guard := some (24, true) }) (v := undef) rfl (by kernel_rfl) (by kernel_rfl) (by kernel_rfl) (fun c a w => (unhide HP) c a _ _ w) (Or.inr ⟨by rfl, rfl⟩) (by assumption) ?_
      simp only [Act.put, List.setIfInBounds_toArray, List.set_cons_zero, List.set_cons_succ]
      refine wpAnyH_take (i := 26) (oi := { dst := some 141, op := Op.move (Operand.tmp 140), type := 4, pos := "law.go:63", after := #[{ on := 25, ground := Ground.data }, { on := 24, ground := Ground.chain }, { on := 24, ground := Ground.guard }], guard := some (24, true) }) (v := undef) rfl (by kernel_rfl) (by kernel_rfl) (by kernel_rfl) (fun c a w => (unhide HP) c a _ _ w) (Or.inr ⟨by rfl, rfl⟩) (by assumption) ?_
      simp only [Act.put, List.setIfInBounds_toArray, List.set_cons_zero, List.set_cons_succ]
      refine wpAnyH_take (i := 27) (oi := { dst := some 142, op := Op.move (Operand.tmp 11), type := 4, pos := "law.go:63", after := #[{ on := 26, ground := Ground.guard }], guard := some (26, false) }) (v := undef) rfl (by kernel_rfl) (by kernel_rfl) (by kernel_rfl) (fun c a w => (unhide HP) c a _ _ w) (Or.inr ⟨by rfl, rfl⟩) (by assumption) ?_
      simp only [Act.put, List.setIfInBounds_toArray, List.set_cons_zero, List.set_cons_succ]
      refine wpAnyH_take (i := 28) (oi := { dst := some 143, op := Op.pick (Operand.tmp 141) (Operand.const (Value.bool true)) (Operand.tmp 142), type := 4, pos := "law.go:63", after := #[{ on := 26, ground := Ground.data }, { on := 27, ground := Ground.data }, { on := 24, ground := Ground.guard }], guard := some (24, true) }) (v := undef) rfl (by kernel_rfl) (by kernel_rfl) (by kernel_rfl) (fun c a w => (unhide HP) c a _ _ w) (Or.inr ⟨by rfl, rfl⟩) (by assumption) ?_
      simp only [Act.put, List.setIfInBounds_toArray, List.set_cons_zero, List.set_cons_succ]
      refine wpAnyH_take (i := 29) (oi := { dst := some 144, op := Op.pick (Operand.tmp 139) (Operand.tmp 143) (Operand.const (Value.bool false)), type := 4, pos := "law.go:63", after := #[{ on := 24, ground := Ground.data }, { on := 28, ground := Ground.data }, { on := 22, ground := Ground.guard }], guard := some (22, true) }) (v := ?_) rfl (by kernel_rfl) (by kernel_rfl) (by kernel_rfl) (fun c a w => (unhide HP) c a _ _ w) (Or.inl ⟨by rfl, ?_⟩) (by assumption) ?_
      rotate_left
      · intro wq hSw
        go_simp
        with_reducible rfl
      simp only [Act.put, List.setIfInBounds_toArray, List.set_cons_zero, List.set_cons_succ]
      refine wpAnyH_take (i := 30) (oi := { dst := some 145, op := Op.load 31 (Operand.tmp 4), type := 31, pos := "law.go:63", after := #[{ on := 22, ground := Ground.guard }], guard := some (22, true) }) (v := ?_) rfl (by kernel_rfl) (by kernel_rfl) (by kernel_rfl) (fun c a w => (unhide HP) c a _ _ w) (Or.inl ⟨by rfl, ?_⟩) (by assumption) ?_
      rotate_left
      · intro wq hSw
        go_simp
        with_reducible rfl
      simp only [Act.put, List.setIfInBounds_toArray, List.set_cons_zero, List.set_cons_succ]
      refine wpAnyH_take (i := 31) (oi := { dst := some 146, op := Op.load 31 (Operand.tmp 5), type := 31, pos := "law.go:63", after := #[{ on := 22, ground := Ground.guard }], guard := some (22, true) }) (v := ?_) rfl (by kernel_rfl) (by kernel_rfl) (by kernel_rfl) (fun c a w => (unhide HP) c a _ _ w) (Or.inl ⟨by rfl, ?_⟩) (by assumption) ?_
      rotate_left
      · intro wq hSw
        go_simp
        with_reducible rfl
      simp only [Act.put, List.setIfInBounds_toArray, List.set_cons_zero, List.set_cons_succ]
      refine wpAnyH_take (i := 32) (oi := { dst := some 147, op := Op.load 31 (Operand.tmp 6), type := 31, pos := "law.go:63", after := #[{ on := 22, ground := Ground.guard }], guard := some (22, true) }) (v := ?_) rfl (by kernel_rfl) (by kernel_rfl) (by kernel_rfl) (fun c a w => (unhide HP) c a _ _ w) (Or.inl ⟨by rfl, ?_⟩) (by assumption) ?_
      rotate_left
      · intro wq hSw
        go_simp
        with_reducible rfl
      simp only [Act.put, List.setIfInBounds_toArray, List.set_cons_zero, List.set_cons_succ]
      refine wpAnyH_take (i := 37) (oi := { dst := some 152, op := Op.move (Operand.tmp 3), type := 23, pos := "law.go:63", after := #[{ on := 22, ground := Ground.guard }], guard := some (22, true) }) (v := ?_) rfl (by kernel_rfl) (by kernel_rfl) (by kernel_rfl) (fun c a w => (unhide HP) c a _ _ w) (Or.inl ⟨by rfl, ?_⟩) (by assumption) ?_
      rotate_left
      · intro wq hSw
        go_simp
        with_reducible rfl
      simp only [Act.put, List.setIfInBounds_toArray, List.set_cons_zero, List.set_cons_succ]
      refine wpAnyH_ready (rs := [33]) (by kernel_rfl) (by simp) ?_
      refine AllReadyH.cons (o := { dst := some 148, op := Op.buildSlice 22 2 #[(0, Operand.tmp 146), (1, Operand.tmp 147)], type := 22, pos := "law.go:63", after := #[{ on := 31, ground := Ground.data }, { on := 32, ground := Ground.data }, { on := 22, ground := Ground.guard }], guard := some (22, true) }) rfl (fun K hK => ?_) AllReadyH.nil
      go_simp
      clear hHeld
      refine hK.out _ _ (KS _ ((unhide R).alloc (unhide R).size _)) (fun hHeld => ?_)
      clear hK K
      have R2 := hide ((unhide R).alloc (unhide R).size (.cells #[.int .i64 vb.kind, .string vb.attr, .slice vb.qi vb.ni vb.ci, .slice vb.qw vb.nw vb.cw, .int .i64 vb.lo, .int .i64 vb.hi, .int .i64 vb.op, .slice vb.qk vb.nk vb.ck, .int .i64 vc.kind, .string vc.attr, .slice vc.qi vc.ni vc.ci, .slice vc.qw vc.nw vc.cw, .int .i64 vc.lo, .int .i64 vc.hi, .int .i64 vc.op, .slice vc.qk vc.nk vc.ck] 31))
      have H33 := hide (box_nw W (.cells #[.int .i64 vb.kind, .string vb.attr, .slice vb.qi vb.ni vb.ci, .slice vb.qw vb.nw vb.cw, .int .i64 vb.lo, .int .i64 vb.hi, .int .i64 vb.op, .slice vb.qk vb.nk vb.ck, .int .i64 vc.kind, .string vc.attr, .slice vc.qi vc.ni vc.ci, .slice vc.qw vc.nw vc.cw, .int .i64 vc.lo, .int .i64 vc.hi, .int .i64 vc.op, .slice vc.qk vc.nk vc.ck] 31))
      have H3' := (hide (((((Below.refl W.heap.size W).alloc (Nat.le_refl _) (.cells #[.int .i64 vb.kind, .string vb.attr, .slice vb.qi vb.ni vb.ci, .slice vb.qw vb.nw vb.cw, .int .i64 vb.lo, .int .i64 vb.hi, .int .i64 vb.op, .slice vb.qk vb.nk vb.ck, .int .i64 vc.kind, .string vc.attr, .slice vc.qi vc.ni vc.ci, .slice vc.qw vc.nw vc.cw, .int .i64 vc.lo, .int .i64 vc.hi, .int .i64 vc.op, .slice vc.qk vc.nk vc.ck] 31))).block _ (heap_lt (unhide H3))).trans (unhide H3)))
      clear H3
      have H3 := H3'
      clear H3'
      have F4' := (hide ((unhide F4).keep (((Below.refl W.heap.size W).alloc (Nat.le_refl _) (.cells #[.int .i64 vb.kind, .string vb.attr, .slice vb.qi vb.ni vb.ci, .slice vb.qw vb.nw vb.cw, .int .i64 vb.lo, .int .i64 vb.hi, .int .i64 vb.op, .slice vb.qk vb.nk vb.ck, .int .i64 vc.kind, .string vc.attr, .slice vc.qi vc.ni vc.ci, .slice vc.qw vc.nw vc.cw, .int .i64 vc.lo, .int .i64 vc.hi, .int .i64 vc.op, .slice vc.qk vc.nk vc.ck] 31)))))
      clear F4
      have F4 := F4'
      clear F4'
      have H5' := (hide (((((Below.refl W.heap.size W).alloc (Nat.le_refl _) (.cells #[.int .i64 vb.kind, .string vb.attr, .slice vb.qi vb.ni vb.ci, .slice vb.qw vb.nw vb.cw, .int .i64 vb.lo, .int .i64 vb.hi, .int .i64 vb.op, .slice vb.qk vb.nk vb.ck, .int .i64 vc.kind, .string vc.attr, .slice vc.qi vc.ni vc.ci, .slice vc.qw vc.nw vc.cw, .int .i64 vc.lo, .int .i64 vc.hi, .int .i64 vc.op, .slice vc.qk vc.nk vc.ck] 31))).block _ (heap_lt (unhide H5))).trans (unhide H5)))
      clear H5
      have H5 := H5'
      clear H5'
      have F6' := (hide ((unhide F6).keep (((Below.refl W.heap.size W).alloc (Nat.le_refl _) (.cells #[.int .i64 vb.kind, .string vb.attr, .slice vb.qi vb.ni vb.ci, .slice vb.qw vb.nw vb.cw, .int .i64 vb.lo, .int .i64 vb.hi, .int .i64 vb.op, .slice vb.qk vb.nk vb.ck, .int .i64 vc.kind, .string vc.attr, .slice vc.qi vc.ni vc.ci, .slice vc.qw vc.nw vc.cw, .int .i64 vc.lo, .int .i64 vc.hi, .int .i64 vc.op, .slice vc.qk vc.nk vc.ck] 31)))))
      clear F6
      have F6 := F6'
      clear F6'
      have H11' := (hide (((((Below.refl W.heap.size W).alloc (Nat.le_refl _) (.cells #[.int .i64 vb.kind, .string vb.attr, .slice vb.qi vb.ni vb.ci, .slice vb.qw vb.nw vb.cw, .int .i64 vb.lo, .int .i64 vb.hi, .int .i64 vb.op, .slice vb.qk vb.nk vb.ck, .int .i64 vc.kind, .string vc.attr, .slice vc.qi vc.ni vc.ci, .slice vc.qw vc.nw vc.cw, .int .i64 vc.lo, .int .i64 vc.hi, .int .i64 vc.op, .slice vc.qk vc.nk vc.ck] 31))).block _ (heap_lt (unhide H11))).trans (unhide H11)))
      clear H11
      have H11 := H11'
      clear H11'
      have F12' := (hide ((unhide F12).keep (((Below.refl W.heap.size W).alloc (Nat.le_refl _) (.cells #[.int .i64 vb.kind, .string vb.attr, .slice vb.qi vb.ni vb.ci, .slice vb.qw vb.nw vb.cw, .int .i64 vb.lo, .int .i64 vb.hi, .int .i64 vb.op, .slice vb.qk vb.nk vb.ck, .int .i64 vc.kind, .string vc.attr, .slice vc.qi vc.ni vc.ci, .slice vc.qw vc.nw vc.cw, .int .i64 vc.lo, .int .i64 vc.hi, .int .i64 vc.op, .slice vc.qk vc.nk vc.ck] 31)))))
      clear F12
      have F12 := F12'
      clear F12'
      have H15' := (hide (((((Below.refl W.heap.size W).alloc (Nat.le_refl _) (.cells #[.int .i64 vb.kind, .string vb.attr, .slice vb.qi vb.ni vb.ci, .slice vb.qw vb.nw vb.cw, .int .i64 vb.lo, .int .i64 vb.hi, .int .i64 vb.op, .slice vb.qk vb.nk vb.ck, .int .i64 vc.kind, .string vc.attr, .slice vc.qi vc.ni vc.ci, .slice vc.qw vc.nw vc.cw, .int .i64 vc.lo, .int .i64 vc.hi, .int .i64 vc.op, .slice vc.qk vc.nk vc.ck] 31))).block _ (heap_lt (unhide H15))).trans (unhide H15)))
      clear H15
      have H15 := H15'
      clear H15'
      have F16' := (hide ((unhide F16).keep (((Below.refl W.heap.size W).alloc (Nat.le_refl _) (.cells #[.int .i64 vb.kind, .string vb.attr, .slice vb.qi vb.ni vb.ci, .slice vb.qw vb.nw vb.cw, .int .i64 vb.lo, .int .i64 vb.hi, .int .i64 vb.op, .slice vb.qk vb.nk vb.ck, .int .i64 vc.kind, .string vc.attr, .slice vc.qi vc.ni vc.ci, .slice vc.qw vc.nw vc.cw, .int .i64 vc.lo, .int .i64 vc.hi, .int .i64 vc.op, .slice vc.qk vc.nk vc.ck] 31)))))
      clear F16
      have F16 := F16'
      clear F16'
      have H17' := (hide (((((Below.refl W.heap.size W).alloc (Nat.le_refl _) (.cells #[.int .i64 vb.kind, .string vb.attr, .slice vb.qi vb.ni vb.ci, .slice vb.qw vb.nw vb.cw, .int .i64 vb.lo, .int .i64 vb.hi, .int .i64 vb.op, .slice vb.qk vb.nk vb.ck, .int .i64 vc.kind, .string vc.attr, .slice vc.qi vc.ni vc.ci, .slice vc.qw vc.nw vc.cw, .int .i64 vc.lo, .int .i64 vc.hi, .int .i64 vc.op, .slice vc.qk vc.nk vc.ck] 31))).block _ (heap_lt (unhide H17))).trans (unhide H17)))
      clear H17
      have H17 := H17'
      clear H17'
      have F18' := (hide ((unhide F18).keep (((Below.refl W.heap.size W).alloc (Nat.le_refl _) (.cells #[.int .i64 vb.kind, .string vb.attr, .slice vb.qi vb.ni vb.ci, .slice vb.qw vb.nw vb.cw, .int .i64 vb.lo, .int .i64 vb.hi, .int .i64 vb.op, .slice vb.qk vb.nk vb.ck, .int .i64 vc.kind, .string vc.attr, .slice vc.qi vc.ni vc.ci, .slice vc.qw vc.nw vc.cw, .int .i64 vc.lo, .int .i64 vc.hi, .int .i64 vc.op, .slice vc.qk vc.nk vc.ck] 31)))))
      clear F18
      have F18 := F18'
      clear F18'
      obtain ⟨M33, eM33⟩ : ∃ m, W.heap.size = m := ⟨_, rfl⟩
      obtain ⟨W, eW⟩ : ∃ m, World.alloc W (.cells #[.int .i64 vb.kind, .string vb.attr, .slice vb.qi vb.ni vb.ci, .slice vb.qw vb.nw vb.cw, .int .i64 vb.lo, .int .i64 vb.hi, .int .i64 vb.op, .slice vb.qk vb.nk vb.ck, .int .i64 vc.kind, .string vc.attr, .slice vc.qi vc.ni vc.ci, .slice vc.qw vc.nw vc.cw, .int .i64 vc.lo, .int .i64 vc.hi, .int .i64 vc.op, .slice vc.qk vc.nk vc.ck] 31) = m := ⟨_, rfl⟩
      rw [eM33] at H33
      rw [eW] at R2 H33 hHeld H3 F4 H5 F6 H11 F12 H15 F16 H17 F18
      rw [eW]
      simp only [eM33]
      clear R eW eM33
      have R := R2
      clear R2
      refine wpAnyH_ready (rs := [34]) (by kernel_rfl) (by simp) ?_
      refine AllReadyH.cons (o := { dst := some 149, op := Op.call { callee := Callee.value (Operand.func 20), args := #[Operand.tmp 148], argTypes := #[22] }, type := 31, pos := "law.go:63", after := #[{ on := 33, ground := Ground.data }, { on := 26, ground := Ground.chain }, { on := 22, ground := Ground.guard }], guard := some (22, true) }) rfl (fun K hK => ?_) AllReadyH.nil
      go_simp
      refine (cOr b c vb vc M33 _ (unhide H33) ((unhide Nb).keep (unhide R)) ((unhide Nc).keep (unhide R)) (by have := unhide HW; omega)).mono ?_
      rintro e W ⟨⟨v34, rfl, bn⟩, bb⟩
      simp only [Nv.val]
      clear hHeld
      refine hK.out _ _ (KS _ (below_sub (unhide R) bb)) (fun hHeld => ?_)
      clear hK K
      have R2 := hide (below_sub (unhide R) bb)
      have H3' := (hide (((bb).block _ (heap_lt (unhide H3))).trans (unhide H3)))
      clear H3
      have H3 := H3'
      clear H3'
      have F4' := (hide ((unhide F4).keep (bb)))
      clear F4
      have F4 := F4'
      clear F4'
      have H5' := (hide (((bb).block _ (heap_lt (unhide H5))).trans (unhide H5)))
      clear H5
      have H5 := H5'
      clear H5'
      have F6' := (hide ((unhide F6).keep (bb)))
      clear F6
      have F6 := F6'
      clear F6'
      have H11' := (hide (((bb).block _ (heap_lt (unhide H11))).trans (unhide H11)))
      clear H11
      have H11 := H11'
      clear H11'
      have F12' := (hide ((unhide F12).keep (bb)))
      clear F12
      have F12 := F12'
      clear F12'
      have H15' := (hide (((bb).block _ (heap_lt (unhide H15))).trans (unhide H15)))
      clear H15
      have H15 := H15'
      clear H15'
      have F16' := (hide ((unhide F16).keep (bb)))
      clear F16
      have F16 := F16'
      clear F16'
      have H17' := (hide (((bb).block _ (heap_lt (unhide H17))).trans (unhide H17)))
      clear H17
      have H17 := H17'
      clear H17'
      have F18' := (hide ((unhide F18).keep (bb)))
      clear F18
      have F18 := F18'
      clear F18'
      have H33' := (hide (((bb).block _ (heap_lt (unhide H33))).trans (unhide H33)))
      clear H33
      have H33 := H33'
      clear H33'
      have F34 := hide bn.toIn
      clear bn
      clear bb R
      have R := R2
      clear R2
      refine wpAnyH_ready (rs := [35]) (by kernel_rfl) (by simp) ?_
      refine AllReadyH.cons (o := { dst := some 150, op := Op.buildSlice 22 2 #[(0, Operand.tmp 145), (1, Operand.tmp 149)], type := 22, pos := "law.go:63", after := #[{ on := 30, ground := Ground.data }, { on := 34, ground := Ground.data }, { on := 22, ground := Ground.guard }], guard := some (22, true) }) rfl (fun K hK => ?_) AllReadyH.nil
      go_simp
      clear hHeld
      refine hK.out _ _ (KS _ ((unhide R).alloc (unhide R).size _)) (fun hHeld => ?_)
      clear hK K
      have R2 := hide ((unhide R).alloc (unhide R).size (.cells #[.int .i64 va.kind, .string va.attr, .slice va.qi va.ni va.ci, .slice va.qw va.nw va.cw, .int .i64 va.lo, .int .i64 va.hi, .int .i64 va.op, .slice va.qk va.nk va.ck, .int .i64 v34.kind, .string v34.attr, .slice v34.qi v34.ni v34.ci, .slice v34.qw v34.nw v34.cw, .int .i64 v34.lo, .int .i64 v34.hi, .int .i64 v34.op, .slice v34.qk v34.nk v34.ck] 31))
      have H35 := hide (box_nw W (.cells #[.int .i64 va.kind, .string va.attr, .slice va.qi va.ni va.ci, .slice va.qw va.nw va.cw, .int .i64 va.lo, .int .i64 va.hi, .int .i64 va.op, .slice va.qk va.nk va.ck, .int .i64 v34.kind, .string v34.attr, .slice v34.qi v34.ni v34.ci, .slice v34.qw v34.nw v34.cw, .int .i64 v34.lo, .int .i64 v34.hi, .int .i64 v34.op, .slice v34.qk v34.nk v34.ck] 31))
      have H3' := (hide (((((Below.refl W.heap.size W).alloc (Nat.le_refl _) (.cells #[.int .i64 va.kind, .string va.attr, .slice va.qi va.ni va.ci, .slice va.qw va.nw va.cw, .int .i64 va.lo, .int .i64 va.hi, .int .i64 va.op, .slice va.qk va.nk va.ck, .int .i64 v34.kind, .string v34.attr, .slice v34.qi v34.ni v34.ci, .slice v34.qw v34.nw v34.cw, .int .i64 v34.lo, .int .i64 v34.hi, .int .i64 v34.op, .slice v34.qk v34.nk v34.ck] 31))).block _ (heap_lt (unhide H3))).trans (unhide H3)))
      clear H3
      have H3 := H3'
      clear H3'
      have F4' := (hide ((unhide F4).keep (((Below.refl W.heap.size W).alloc (Nat.le_refl _) (.cells #[.int .i64 va.kind, .string va.attr, .slice va.qi va.ni va.ci, .slice va.qw va.nw va.cw, .int .i64 va.lo, .int .i64 va.hi, .int .i64 va.op, .slice va.qk va.nk va.ck, .int .i64 v34.kind, .string v34.attr, .slice v34.qi v34.ni v34.ci, .slice v34.qw v34.nw v34.cw, .int .i64 v34.lo, .int .i64 v34.hi, .int .i64 v34.op, .slice v34.qk v34.nk v34.ck] 31)))))
      clear F4
      have F4 := F4'
      clear F4'
      have H5' := (hide (((((Below.refl W.heap.size W).alloc (Nat.le_refl _) (.cells #[.int .i64 va.kind, .string va.attr, .slice va.qi va.ni va.ci, .slice va.qw va.nw va.cw, .int .i64 va.lo, .int .i64 va.hi, .int .i64 va.op, .slice va.qk va.nk va.ck, .int .i64 v34.kind, .string v34.attr, .slice v34.qi v34.ni v34.ci, .slice v34.qw v34.nw v34.cw, .int .i64 v34.lo, .int .i64 v34.hi, .int .i64 v34.op, .slice v34.qk v34.nk v34.ck] 31))).block _ (heap_lt (unhide H5))).trans (unhide H5)))
      clear H5
      have H5 := H5'
      clear H5'
      have F6' := (hide ((unhide F6).keep (((Below.refl W.heap.size W).alloc (Nat.le_refl _) (.cells #[.int .i64 va.kind, .string va.attr, .slice va.qi va.ni va.ci, .slice va.qw va.nw va.cw, .int .i64 va.lo, .int .i64 va.hi, .int .i64 va.op, .slice va.qk va.nk va.ck, .int .i64 v34.kind, .string v34.attr, .slice v34.qi v34.ni v34.ci, .slice v34.qw v34.nw v34.cw, .int .i64 v34.lo, .int .i64 v34.hi, .int .i64 v34.op, .slice v34.qk v34.nk v34.ck] 31)))))
      clear F6
      have F6 := F6'
      clear F6'
      have H11' := (hide (((((Below.refl W.heap.size W).alloc (Nat.le_refl _) (.cells #[.int .i64 va.kind, .string va.attr, .slice va.qi va.ni va.ci, .slice va.qw va.nw va.cw, .int .i64 va.lo, .int .i64 va.hi, .int .i64 va.op, .slice va.qk va.nk va.ck, .int .i64 v34.kind, .string v34.attr, .slice v34.qi v34.ni v34.ci, .slice v34.qw v34.nw v34.cw, .int .i64 v34.lo, .int .i64 v34.hi, .int .i64 v34.op, .slice v34.qk v34.nk v34.ck] 31))).block _ (heap_lt (unhide H11))).trans (unhide H11)))
      clear H11
      have H11 := H11'
      clear H11'
      have F12' := (hide ((unhide F12).keep (((Below.refl W.heap.size W).alloc (Nat.le_refl _) (.cells #[.int .i64 va.kind, .string va.attr, .slice va.qi va.ni va.ci, .slice va.qw va.nw va.cw, .int .i64 va.lo, .int .i64 va.hi, .int .i64 va.op, .slice va.qk va.nk va.ck, .int .i64 v34.kind, .string v34.attr, .slice v34.qi v34.ni v34.ci, .slice v34.qw v34.nw v34.cw, .int .i64 v34.lo, .int .i64 v34.hi, .int .i64 v34.op, .slice v34.qk v34.nk v34.ck] 31)))))
      clear F12
      have F12 := F12'
      clear F12'
      have H15' := (hide (((((Below.refl W.heap.size W).alloc (Nat.le_refl _) (.cells #[.int .i64 va.kind, .string va.attr, .slice va.qi va.ni va.ci, .slice va.qw va.nw va.cw, .int .i64 va.lo, .int .i64 va.hi, .int .i64 va.op, .slice va.qk va.nk va.ck, .int .i64 v34.kind, .string v34.attr, .slice v34.qi v34.ni v34.ci, .slice v34.qw v34.nw v34.cw, .int .i64 v34.lo, .int .i64 v34.hi, .int .i64 v34.op, .slice v34.qk v34.nk v34.ck] 31))).block _ (heap_lt (unhide H15))).trans (unhide H15)))
      clear H15
      have H15 := H15'
      clear H15'
      have F16' := (hide ((unhide F16).keep (((Below.refl W.heap.size W).alloc (Nat.le_refl _) (.cells #[.int .i64 va.kind, .string va.attr, .slice va.qi va.ni va.ci, .slice va.qw va.nw va.cw, .int .i64 va.lo, .int .i64 va.hi, .int .i64 va.op, .slice va.qk va.nk va.ck, .int .i64 v34.kind, .string v34.attr, .slice v34.qi v34.ni v34.ci, .slice v34.qw v34.nw v34.cw, .int .i64 v34.lo, .int .i64 v34.hi, .int .i64 v34.op, .slice v34.qk v34.nk v34.ck] 31)))))
      clear F16
      have F16 := F16'
      clear F16'
      have H17' := (hide (((((Below.refl W.heap.size W).alloc (Nat.le_refl _) (.cells #[.int .i64 va.kind, .string va.attr, .slice va.qi va.ni va.ci, .slice va.qw va.nw va.cw, .int .i64 va.lo, .int .i64 va.hi, .int .i64 va.op, .slice va.qk va.nk va.ck, .int .i64 v34.kind, .string v34.attr, .slice v34.qi v34.ni v34.ci, .slice v34.qw v34.nw v34.cw, .int .i64 v34.lo, .int .i64 v34.hi, .int .i64 v34.op, .slice v34.qk v34.nk v34.ck] 31))).block _ (heap_lt (unhide H17))).trans (unhide H17)))
      clear H17
      have H17 := H17'
      clear H17'
      have F18' := (hide ((unhide F18).keep (((Below.refl W.heap.size W).alloc (Nat.le_refl _) (.cells #[.int .i64 va.kind, .string va.attr, .slice va.qi va.ni va.ci, .slice va.qw va.nw va.cw, .int .i64 va.lo, .int .i64 va.hi, .int .i64 va.op, .slice va.qk va.nk va.ck, .int .i64 v34.kind, .string v34.attr, .slice v34.qi v34.ni v34.ci, .slice v34.qw v34.nw v34.cw, .int .i64 v34.lo, .int .i64 v34.hi, .int .i64 v34.op, .slice v34.qk v34.nk v34.ck] 31)))))
      clear F18
      have F18 := F18'
      clear F18'
      have H33' := (hide (((((Below.refl W.heap.size W).alloc (Nat.le_refl _) (.cells #[.int .i64 va.kind, .string va.attr, .slice va.qi va.ni va.ci, .slice va.qw va.nw va.cw, .int .i64 va.lo, .int .i64 va.hi, .int .i64 va.op, .slice va.qk va.nk va.ck, .int .i64 v34.kind, .string v34.attr, .slice v34.qi v34.ni v34.ci, .slice v34.qw v34.nw v34.cw, .int .i64 v34.lo, .int .i64 v34.hi, .int .i64 v34.op, .slice v34.qk v34.nk v34.ck] 31))).block _ (heap_lt (unhide H33))).trans (unhide H33)))
      clear H33
      have H33 := H33'
      clear H33'
      have F34' := (hide ((unhide F34).keep (((Below.refl W.heap.size W).alloc (Nat.le_refl _) (.cells #[.int .i64 va.kind, .string va.attr, .slice va.qi va.ni va.ci, .slice va.qw va.nw va.cw, .int .i64 va.lo, .int .i64 va.hi, .int .i64 va.op, .slice va.qk va.nk va.ck, .int .i64 v34.kind, .string v34.attr, .slice v34.qi v34.ni v34.ci, .slice v34.qw v34.nw v34.cw, .int .i64 v34.lo, .int .i64 v34.hi, .int .i64 v34.op, .slice v34.qk v34.nk v34.ck] 31)))))
      clear F34
      have F34 := F34'
      clear F34'
      obtain ⟨M35, eM35⟩ : ∃ m, W.heap.size = m := ⟨_, rfl⟩
      obtain ⟨W, eW⟩ : ∃ m, World.alloc W (.cells #[.int .i64 va.kind, .string va.attr, .slice va.qi va.ni va.ci, .slice va.qw va.nw va.cw, .int .i64 va.lo, .int .i64 va.hi, .int .i64 va.op, .slice va.qk va.nk va.ck, .int .i64 v34.kind, .string v34.attr, .slice v34.qi v34.ni v34.ci, .slice v34.qw v34.nw v34.cw, .int .i64 v34.lo, .int .i64 v34.hi, .int .i64 v34.op, .slice v34.qk v34.nk v34.ck] 31) = m := ⟨_, rfl⟩
      rw [eM35] at H35
      rw [eW] at R2 H35 hHeld H3 F4 H5 F6 H11 F12 H15 F16 H17 F18 H33 F34
      rw [eW]
      simp only [eM35]
      clear R eW eM35
      have R := R2
      clear R2
      refine wpAnyH_ready (rs := [36]) (by kernel_rfl) (by simp) ?_
      refine AllReadyH.cons (o := { dst := some 151, op := Op.call { callee := Callee.value (Operand.func 19), args := #[Operand.tmp 150], argTypes := #[22] }, type := 31, pos := "law.go:63", after := #[{ on := 35, ground := Ground.data }, { on := 34, ground := Ground.chain }, { on := 22, ground := Ground.guard }], guard := some (22, true) }) rfl (fun K hK => ?_) AllReadyH.nil
      go_simp
      refine (cAnd a (joinT 4 [b, c]) va v34 M35 _ (unhide H35) ((unhide Na).keep (unhide R)) (unhide F34) (by have := unhide HW; have := w2 4 b c; omega)).mono ?_
      rintro e W ⟨⟨v36, rfl, bn⟩, bb⟩
      simp only [Nv.val]
      clear hHeld
      refine hK.out _ _ (KS _ (below_sub (unhide R) bb)) (fun hHeld => ?_)
      clear hK K
      have R2 := hide (below_sub (unhide R) bb)
      have H3' := (hide (((bb).block _ (heap_lt (unhide H3))).trans (unhide H3)))
      clear H3
      have H3 := H3'
      clear H3'
      have F4' := (hide ((unhide F4).keep (bb)))
      clear F4
      have F4 := F4'
      clear F4'
      have H5' := (hide (((bb).block _ (heap_lt (unhide H5))).trans (unhide H5)))
      clear H5
      have H5 := H5'
      clear H5'
      have F6' := (hide ((unhide F6).keep (bb)))
      clear F6
      have F6 := F6'
      clear F6'
      have H11' := (hide (((bb).block _ (heap_lt (unhide H11))).trans (unhide H11)))
      clear H11
      have H11 := H11'
      clear H11'
      have F12' := (hide ((unhide F12).keep (bb)))
      clear F12
      have F12 := F12'
      clear F12'
      have H15' := (hide (((bb).block _ (heap_lt (unhide H15))).trans (unhide H15)))
      clear H15
      have H15 := H15'
      clear H15'
      have F16' := (hide ((unhide F16).keep (bb)))
      clear F16
      have F16 := F16'
      clear F16'
      have H17' := (hide (((bb).block _ (heap_lt (unhide H17))).trans (unhide H17)))
      clear H17
      have H17 := H17'
      clear H17'
      have F18' := (hide ((unhide F18).keep (bb)))
      clear F18
      have F18 := F18'
      clear F18'
      have H33' := (hide (((bb).block _ (heap_lt (unhide H33))).trans (unhide H33)))
      clear H33
      have H33 := H33'
      clear H33'
      have F34' := (hide ((unhide F34).keep (bb)))
      clear F34
      have F34 := F34'
      clear F34'
      have H35' := (hide (((bb).block _ (heap_lt (unhide H35))).trans (unhide H35)))
      clear H35
      have H35 := H35'
      clear H35'
      have F36 := hide bn.toIn
      clear bn
      clear bb R
      have R := R2
      clear R2
      refine wpAnyH_ready (rs := [38]) (by kernel_rfl) (by simp) ?_
      refine AllReadyH.cons (o := { dst := some 153, op := Op.call { callee := Callee.value (Operand.func 8), args := #[Operand.tmp 151, Operand.tmp 152], argTypes := #[31, 23] }, type := 4, pos := "law.go:63", after := #[{ on := 36, ground := Ground.data }, { on := 37, ground := Ground.data }, { on := 36, ground := Ground.chain }, { on := 22, ground := Ground.guard }], guard := some (22, true) }) rfl (fun K hK => ?_) AllReadyH.nil
      go_simp
      refine (cEv (joinT 3 [a, (joinT 4 [b, c])]) v36 qe ce ev _ false (unhide F36) ((unhide HE).below (unhide R)) (ck2 3 (Or.inl rfl) a (joinT 4 [b, c]) (unhide HCa) (ck2 4 (Or.inr rfl) b c (unhide HCb) (unhide HCc))) ((tA2 ev a (joinT 4 [b, c])).trans (congr (congrArg and (unhide HXa)) ((tO2 ev b c).trans (congr (congrArg or (unhide HXb)) (unhide HXc))))) (by have := unhide HW; have := w2 3 a (joinT 4 [b, c]); have := w2 4 b c; omega) (unhide HL)).mono ?_
      rintro e W ⟨rfl, bb⟩
      clear hHeld
      refine hK.out _ _ (KS _ (below_sub (unhide R) bb)) (fun hHeld => ?_)
      clear hK K
      have R2 := hide (below_sub (unhide R) bb)
      have H3' := (hide (((bb).block _ (heap_lt (unhide H3))).trans (unhide H3)))
      clear H3
      have H3 := H3'
      clear H3'
      have F4' := (hide ((unhide F4).keep (bb)))
      clear F4
      have F4 := F4'
      clear F4'
      have H5' := (hide (((bb).block _ (heap_lt (unhide H5))).trans (unhide H5)))
      clear H5
      have H5 := H5'
      clear H5'
      have F6' := (hide ((unhide F6).keep (bb)))
      clear F6
      have F6 := F6'
      clear F6'
      have H11' := (hide (((bb).block _ (heap_lt (unhide H11))).trans (unhide H11)))
      clear H11
      have H11 := H11'
      clear H11'
      have F12' := (hide ((unhide F12).keep (bb)))
      clear F12
      have F12 := F12'
      clear F12'
      have H15' := (hide (((bb).block _ (heap_lt (unhide H15))).trans (unhide H15)))
      clear H15
      have H15 := H15'
      clear H15'
      have F16' := (hide ((unhide F16).keep (bb)))
      clear F16
      have F16 := F16'
      clear F16'
      have H17' := (hide (((bb).block _ (heap_lt (unhide H17))).trans (unhide H17)))
      clear H17
      have H17 := H17'
      clear H17'
      have F18' := (hide ((unhide F18).keep (bb)))
      clear F18
      have F18 := F18'
      clear F18'
      have H33' := (hide (((bb).block _ (heap_lt (unhide H33))).trans (unhide H33)))
      clear H33
      have H33 := H33'
      clear H33'
      have F34' := (hide ((unhide F34).keep (bb)))
      clear F34
      have F34 := F34'
      clear F34'
      have H35' := (hide (((bb).block _ (heap_lt (unhide H35))).trans (unhide H35)))
      clear H35
      have H35 := H35'
      clear H35'
      have F36' := (hide ((unhide F36).keep (bb)))
      clear F36
      have F36 := F36'
      clear F36'
      clear bb R
      have R := R2
      clear R2
      refine wpAnyH_take (i := 39) (oi := { dst := some 154, op := Op.binOp BinOp.eql 4 (Operand.tmp 144) (Operand.tmp 153) 4, type := 4, pos := "law.go:63", after := #[{ on := 29, ground := Ground.data }, { on := 38, ground := Ground.data }, { on := 22, ground := Ground.guard }], guard := some (22, true) }) (v := ?_) rfl (by kernel_rfl) (by kernel_rfl) (by kernel_rfl) (fun c a w => (unhide HP) c a _ _ w) (Or.inl ⟨by rfl, ?_⟩) (by assumption) ?_
      rotate_left
      · intro wq hSw
        go_simp
        with_reducible rfl
      simp only [Act.put, List.setIfInBounds_toArray, List.set_cons_zero, List.set_cons_succ]
      refine wpAnyH_take (i := 40) (oi := { dst := some 155, op := Op.pick (Operand.tmp 137) (Operand.tmp 154) (Operand.const (Value.bool false)), type := 4, pos := "law.go:63", after := #[{ on := 22, ground := Ground.data }, { on := 39, ground := Ground.data }], guard := none }) (v := ?_) rfl (by kernel_rfl) (by kernel_rfl) (by kernel_rfl) (fun c a w => (unhide HP) c a _ _ w) (Or.inl ⟨by rfl, ?_⟩) (by assumption) ?_
      rotate_left
      · intro wq hSw
        go_simp
        with_reducible rfl
      simp only [Act.put, List.setIfInBounds_toArray, List.set_cons_zero, List.set_cons_succ]
      refine wpAnyH_take (i := 41) (oi := { dst := some 8, op := Op.assign (Operand.tmp 155), type := 4, pos := "law.go:63", after := #[{ on := 40, ground := Ground.data }, { on := 38, ground := Ground.chain }, { on := 0, ground := Ground.phase }, { on := 1, ground := Ground.phase }, { on := 2, ground := Ground.phase }, { on := 3, ground := Ground.phase }, { on := 4, ground := Ground.phase }, { on := 5, ground := Ground.phase }, { on := 6, ground := Ground.phase }, { on := 7, ground := Ground.phase }, { on := 8, ground := Ground.phase }, { on := 9, ground := Ground.phase }, { on := 10, ground := Ground.phase }, { on := 11, ground := Ground.phase }, { on := 12, ground := Ground.phase }, { on := 13, ground := Ground.phase }, { on := 14, ground := Ground.phase }, { on := 15, ground := Ground.phase }, { on := 16, ground := Ground.phase }, { on := 17, ground := Ground.phase }, { on := 18, ground := Ground.phase }, { on := 19, ground := Ground.phase }, { on := 20, ground := Ground.phase }, { on := 21, ground := Ground.phase }, { on := 22, ground := Ground.phase }, { on := 23, ground := Ground.phase }, { on := 24, ground := Ground.phase }, { on := 25, ground := Ground.phase }, { on := 26, ground := Ground.phase }, { on := 27, ground := Ground.phase }, { on := 28, ground := Ground.phase }, { on := 29, ground := Ground.phase }, { on := 30, ground := Ground.phase }, { on := 31, ground := Ground.phase }, { on := 32, ground := Ground.phase }, { on := 33, ground := Ground.phase }, { on := 34, ground := Ground.phase }, { on := 35, ground := Ground.phase }, { on := 36, ground := Ground.phase }, { on := 37, ground := Ground.phase }, { on := 38, ground := Ground.phase }, { on := 39, ground := Ground.phase }, { on := 40, ground := Ground.phase }], guard := none }) (v := ?_) rfl (by kernel_rfl) (by kernel_rfl) (by kernel_rfl) (fun c a w => (unhide HP) c a _ _ w) (Or.inl ⟨by rfl, ?_⟩) (by assumption) ?_
      rotate_left
      · intro wq hSw
        go_simp
        with_reducible rfl
      simp only [Act.put, List.setIfInBounds_toArray, List.set_cons_zero, List.set_cons_succ]
      refine wpAnyH_done (by kernel_rfl) ?_ _
      exact (unhide HQ) W _ _ _ _ _ _ _ _ _ _ _ _ _ _ _ _ _ _ _ _ _ _ _ _ _ _ _ _ _ _ _ _ _ _ _ _ _ _ _ _ _ (unhide R)
    · cases y
      · cases z
        · refine wpAnyH_take (i := 21) (oi := { dst := some 136, op := Op.binOp BinOp.eql 4 (Operand.tmp 123) (Operand.tmp 135) 4, type := 4, pos := "law.go:63", after := #[{ on := 8, ground := Ground.data }, { on := 20, ground := Ground.data }], guard := none }) (v := ?_) rfl (by kernel_rfl) (by kernel_rfl) (by kernel_rfl) (fun c a w => (unhide HP) c a _ _ w) (Or.inl ⟨by rfl, ?_⟩) (by assumption) ?_
          rotate_left
          · intro wq hSw
            go_simp
            with_reducible rfl
          simp only [Act.put, List.setIfInBounds_toArray, List.set_cons_zero, List.set_cons_succ]
          refine wpAnyH_take (i := 22) (oi := { dst := some 137, op := Op.move (Operand.tmp 136), type := 4, pos := "law.go:63", after := #[{ on := 21, ground := Ground.data }, { on := 20, ground := Ground.chain }], guard := none }) (v := ?_) rfl (by kernel_rfl) (by kernel_rfl) (by kernel_rfl) (fun c a w => (unhide HP) c a _ _ w) (Or.inl ⟨by rfl, ?_⟩) (by assumption) ?_
          rotate_left
          · intro wq hSw
            go_simp
            with_reducible rfl
          simp only [Act.put, List.setIfInBounds_toArray, List.set_cons_zero, List.set_cons_succ]
          refine wpAnyH_take (i := 23) (oi := { dst := some 138, op := Op.move (Operand.tmp 9), type := 4, pos := "law.go:63", after := #[{ on := 22, ground := Ground.guard }], guard := some (22, true) }) (v := ?_) rfl (by kernel_rfl) (by kernel_rfl) (by kernel_rfl) (fun c a w => (unhide HP) c a _ _ w) (Or.inl ⟨by rfl, ?_⟩) (by assumption) ?_
          rotate_left
          · intro wq hSw
            go_simp
            with_reducible rfl
          simp only [Act.put, List.setIfInBounds_toArray, List.set_cons_zero, List.set_cons_succ]
          refine wpAnyH_take (i := 24) (oi := { dst := some 139, op := Op.move (Operand.tmp 138), type := 4, pos := "law.go:63", after := #[{ on := 23, ground := Ground.data }, { on := 22, ground := Ground.chain }, { on := 22, ground := Ground.guard }], guard := some (22, true) }) (v := ?_) rfl (by kernel_rfl) (by kernel_rfl) (by kernel_rfl) (fun c a w => (unhide HP) c a _ _ w) (Or.inl ⟨by rfl, ?_⟩) (by assumption) ?_
          rotate_left
          · intro wq hSw
            go_simp
            with_reducible rfl
          simp only [Act.put, List.setIfInBounds_toArray, List.set_cons_zero, List.set_cons_succ]
          refine wpAnyH_take (i := 25) (oi := { dst := some 140, op := Op.move (Operand.tmp 10), type := 4, pos := "law.go:63", after := #[{ on := 24, ground := Ground.guard }], guard := some (24, true) }) (v := ?_) rfl (by kernel_rfl) (by kernel_rfl) (by kernel_rfl) (fun c a w => (unhide HP) c a _ _ w) (Or.inl ⟨by rfl, ?_⟩) (by assumption) ?_
          rotate_left
          · intro wq hSw
            go_simp
            with_reducible rfl
          simp only [Act.put, List.setIfInBounds_toArray, List.set_cons_zero, List.set_cons_succ]
          refine wpAnyH_take (i := 26) (oi := { dst := some 141, op := Op.move (Operand.tmp 140), type := 4, pos := "law.go:63", after := #[{ on := 25, ground := Ground.data }, { on := 24, ground := Ground.chain }, { on := 24, ground := Ground.guard }], guard := some (24, true) }) (v := ?_) rfl (by kernel_rfl) (by kernel_rfl) (by kernel_rfl) (fun c a w => (unhide HP) c a _ _ w) (Or.inl ⟨by rfl, ?_⟩) (by assumption) ?_
          rotate_left
          · intro wq hSw
            go_simp
            with_reducible rfl
          simp only [Act.put, List.setIfInBounds_toArray, List.set_cons_zero, List.set_cons_succ]
          refine wpAnyH_take (i := 27) (oi := { dst := some 142, op := Op.move (Operand.tmp 11), type := 4, pos := "law.go:63", after := #[{ on := 26, ground := Ground.guard }], guard := some (26, false) }) (v := ?_) rfl (by kernel_rfl) (by kernel_rfl) (by kernel_rfl) (fun c a w => (unhide HP) c a _ _ w) (Or.inl ⟨by rfl, ?_⟩) (by assumption) ?_
          rotate_left
          · intro wq hSw
            go_simp
            with_reducible rfl
          simp only [Act.put, List.setIfInBounds_toArray, List.set_cons_zero, List.set_cons_succ]
          refine wpAnyH_take (i := 28) (oi := { dst := some 143, op := Op.pick (Operand.tmp 141) (Operand.const (Value.bool true)) (Operand.tmp 142), type := 4, pos := "law.go:63", after := #[{ on := 26, ground := Ground.data }, { on := 27, ground := Ground.data }, { on := 24, ground := Ground.guard }], guard := some (24, true) }) (v := ?_) rfl (by kernel_rfl) (by kernel_rfl) (by kernel_rfl) (fun c a w => (unhide HP) c a _ _ w) (Or.inl ⟨by rfl, ?_⟩) (by assumption) ?_
          rotate_left
          · intro wq hSw
            go_simp
            with_reducible rfl
          simp only [Act.put, List.setIfInBounds_toArray, List.set_cons_zero, List.set_cons_succ]
          refine wpAnyH_take (i := 29) (oi := { dst := some 144, op := Op.pick (Operand.tmp 139) (Operand.tmp 143) (Operand.const (Value.bool false)), type := 4, pos := "law.go:63", after := #[{ on := 24, ground := Ground.data }, { on := 28, ground := Ground.data }, { on := 22, ground := Ground.guard }], guard := some (22, true) }) (v := ?_) rfl (by kernel_rfl) (by kernel_rfl) (by kernel_rfl) (fun c a w => (unhide HP) c a _ _ w) (Or.inl ⟨by rfl, ?_⟩) (by assumption) ?_
          rotate_left
          · intro wq hSw
            go_simp
            with_reducible rfl
          simp only [Act.put, List.setIfInBounds_toArray, List.set_cons_zero, List.set_cons_succ]
          refine wpAnyH_take (i := 30) (oi := { dst := some 145, op := Op.load 31 (Operand.tmp 4), type := 31, pos := "law.go:63", after := #[{ on := 22, ground := Ground.guard }], guard := some (22, true) }) (v := ?_) rfl (by kernel_rfl) (by kernel_rfl) (by kernel_rfl) (fun c a w => (unhide HP) c a _ _ w) (Or.inl ⟨by rfl, ?_⟩) (by assumption) ?_
          rotate_left
          · intro wq hSw
            go_simp
            with_reducible rfl
          simp only [Act.put, List.setIfInBounds_toArray, List.set_cons_zero, List.set_cons_succ]
          refine wpAnyH_take (i := 31) (oi := { dst := some 146, op := Op.load 31 (Operand.tmp 5), type := 31, pos := "law.go:63", after := #[{ on := 22, ground := Ground.guard }], guard := some (22, true) }) (v := ?_) rfl (by kernel_rfl) (by kernel_rfl) (by kernel_rfl) (fun c a w => (unhide HP) c a _ _ w) (Or.inl ⟨by rfl, ?_⟩) (by assumption) ?_
          rotate_left
          · intro wq hSw
            go_simp
            with_reducible rfl
          simp only [Act.put, List.setIfInBounds_toArray, List.set_cons_zero, List.set_cons_succ]
          refine wpAnyH_take (i := 32) (oi := { dst := some 147, op := Op.load 31 (Operand.tmp 6), type := 31, pos := "law.go:63", after := #[{ on := 22, ground := Ground.guard }], guard := some (22, true) }) (v := ?_) rfl (by kernel_rfl) (by kernel_rfl) (by kernel_rfl) (fun c a w => (unhide HP) c a _ _ w) (Or.inl ⟨by rfl, ?_⟩) (by assumption) ?_
          rotate_left
          · intro wq hSw
            go_simp
            with_reducible rfl
          simp only [Act.put, List.setIfInBounds_toArray, List.set_cons_zero, List.set_cons_succ]
          refine wpAnyH_take (i := 37) (oi := { dst := some 152, op := Op.move (Operand.tmp 3), type := 23, pos := "law.go:63", after := #[{ on := 22, ground := Ground.guard }], guard := some (22, true) }) (v := ?_) rfl (by kernel_rfl) (by kernel_rfl) (by kernel_rfl) (fun c a w => (unhide HP) c a _ _ w) (Or.inl ⟨by rfl, ?_⟩) (by assumption) ?_
          rotate_left
          · intro wq hSw
            go_simp
            with_reducible rfl
          simp only [Act.put, List.setIfInBounds_toArray, List.set_cons_zero, List.set_cons_succ]
          refine wpAnyH_ready (rs := [33]) (by kernel_rfl) (by simp) ?_
          refine AllReadyH.cons (o := { dst := some 148, op := Op.buildSlice 22 2 #[(0, Operand.tmp 146), (1, Operand.tmp 147)], type := 22, pos := "law.go:63", after := #[{ on := 31, ground := Ground.data }, { on := 32, ground := Ground.data }, { on := 22, ground := Ground.guard }], guard := some (22, true) }) rfl (fun K hK => ?_) AllReadyH.nil
          go_simp
          clear hHeld
          refine hK.out _ _ (KS _ ((unhide R).alloc (unhide R).size _)) (fun hHeld => ?_)
          clear hK K
          have R2 := hide ((unhide R).alloc (unhide R).size (.cells #[.int .i64 vb.kind, .string vb.attr, .slice vb.qi vb.ni vb.ci, .slice vb.qw vb.nw vb.cw, .int .i64 vb.lo, .int .i64 vb.hi, .int .i64 vb.op, .slice vb.qk vb.nk vb.ck, .int .i64 vc.kind, .string vc.attr, .slice vc.qi vc.ni vc.ci, .slice vc.qw vc.nw vc.cw, .int .i64 vc.lo, .int .i64 vc.hi, .int .i64 vc.op, .slice vc.qk vc.nk vc.ck] 31))
          have H33 := hide (box_nw W (.cells #[.int .i64 vb.kind, .string vb.attr, .slice vb.qi vb.ni vb.ci, .slice vb.qw vb.nw vb.cw, .int .i64 vb.lo, .int .i64 vb.hi, .int .i64 vb.op, .slice vb.qk vb.nk vb.ck, .int .i64 vc.kind, .string vc.attr, .slice vc.qi vc.ni vc.ci, .slice vc.qw vc.nw vc.cw, .int .i64 vc.lo, .int .i64 vc.hi, .int .i64 vc.op, .slice vc.qk vc.nk vc.ck] 31))
          have H3' := (hide (((((Below.refl W.heap.size W).alloc (Nat.le_refl _) (.cells #[.int .i64 vb.kind, .string vb.attr, .slice vb.qi vb.ni vb.ci, .slice vb.qw vb.nw vb.cw, .int .i64 vb.lo, .int .i64 vb.hi, .int .i64 vb.op, .slice vb.qk vb.nk vb.ck, .int .i64 vc.kind, .string vc.attr, .slice vc.qi vc.ni vc.ci, .slice vc.qw vc.nw vc.cw, .int .i64 vc.lo, .int .i64 vc.hi, .int .i64 vc.op, .slice vc.qk vc.nk vc.ck] 31))).block _ (heap_lt (unhide H3))).trans (unhide H3)))
          clear H3
          have H3 := H3'
          clear H3'
          have F4' := (hide ((unhide F4).keep (((Below.refl W.heap.size W).alloc (Nat.le_refl _) (.cells #[.int .i64 vb.kind, .string vb.attr, .slice vb.qi vb.ni vb.ci, .slice vb.qw vb.nw vb.cw, .int .i64 vb.lo, .int .i64 vb.hi, .int .i64 vb.op, .slice vb.qk vb.nk vb.ck, .int .i64 vc.kind, .string vc.attr, .slice vc.qi vc.ni vc.ci, .slice vc.qw vc.nw vc.cw, .int .i64 vc.lo, .int .i64 vc.hi, .int .i64 vc.op, .slice vc.qk vc.nk vc.ck] 31)))))
          clear F4
          have F4 := F4'
          clear F4'
          have H5' := (hide (((((Below.refl W.heap.size W).alloc (Nat.le_refl _) (.cells #[.int .i64 vb.kind, .string vb.attr, .slice vb.qi vb.ni vb.ci, .slice vb.qw vb.nw vb.cw, .int .i64 vb.lo, .int .i64 vb.hi, .int .i64 vb.op, .slice vb.qk vb.nk vb.ck, .int .i64 vc.kind, .string vc.attr, .slice vc.qi vc.ni vc.ci, .slice vc.qw vc.nw vc.cw, .int .i64 vc.lo, .int .i64 vc.hi, .int .i64 vc.op, .slice vc.qk vc.nk vc.ck] 31))).block _ (heap_lt (unhide H5))).trans (unhide H5)))
          clear H5
          have H5 := H5'
          clear H5'
          have F6' := (hide ((unhide F6).keep (((Below.refl W.heap.size W).alloc (Nat.le_refl _) (.cells #[.int .i64 vb.kind, .string vb.attr, .slice vb.qi vb.ni vb.ci, .slice vb.qw vb.nw vb.cw, .int .i64 vb.lo, .int .i64 vb.hi, .int .i64 vb.op, .slice vb.qk vb.nk vb.ck, .int .i64 vc.kind, .string vc.attr, .slice vc.qi vc.ni vc.ci, .slice vc.qw vc.nw vc.cw, .int .i64 vc.lo, .int .i64 vc.hi, .int .i64 vc.op, .slice vc.qk vc.nk vc.ck] 31)))))
          clear F6
          have F6 := F6'
          clear F6'
          have H11' := (hide (((((Below.refl W.heap.size W).alloc (Nat.le_refl _) (.cells #[.int .i64 vb.kind, .string vb.attr, .slice vb.qi vb.ni vb.ci, .slice vb.qw vb.nw vb.cw, .int .i64 vb.lo, .int .i64 vb.hi, .int .i64 vb.op, .slice vb.qk vb.nk vb.ck, .int .i64 vc.kind, .string vc.attr, .slice vc.qi vc.ni vc.ci, .slice vc.qw vc.nw vc.cw, .int .i64 vc.lo, .int .i64 vc.hi, .int .i64 vc.op, .slice vc.qk vc.nk vc.ck] 31))).block _ (heap_lt (unhide H11))).trans (unhide H11)))
          clear H11
          have H11 := H11'
          clear H11'
          have F12' := (hide ((unhide F12).keep (((Below.refl W.heap.size W).alloc (Nat.le_refl _) (.cells #[.int .i64 vb.kind, .string vb.attr, .slice vb.qi vb.ni vb.ci, .slice vb.qw vb.nw vb.cw, .int .i64 vb.lo, .int .i64 vb.hi, .int .i64 vb.op, .slice vb.qk vb.nk vb.ck, .int .i64 vc.kind, .string vc.attr, .slice vc.qi vc.ni vc.ci, .slice vc.qw vc.nw vc.cw, .int .i64 vc.lo, .int .i64 vc.hi, .int .i64 vc.op, .slice vc.qk vc.nk vc.ck] 31)))))
          clear F12
          have F12 := F12'
          clear F12'
          have H15' := (hide (((((Below.refl W.heap.size W).alloc (Nat.le_refl _) (.cells #[.int .i64 vb.kind, .string vb.attr, .slice vb.qi vb.ni vb.ci, .slice vb.qw vb.nw vb.cw, .int .i64 vb.lo, .int .i64 vb.hi, .int .i64 vb.op, .slice vb.qk vb.nk vb.ck, .int .i64 vc.kind, .string vc.attr, .slice vc.qi vc.ni vc.ci, .slice vc.qw vc.nw vc.cw, .int .i64 vc.lo, .int .i64 vc.hi, .int .i64 vc.op, .slice vc.qk vc.nk vc.ck] 31))).block _ (heap_lt (unhide H15))).trans (unhide H15)))
          clear H15
          have H15 := H15'
          clear H15'
          have F16' := (hide ((unhide F16).keep (((Below.refl W.heap.size W).alloc (Nat.le_refl _) (.cells #[.int .i64 vb.kind, .string vb.attr, .slice vb.qi vb.ni vb.ci, .slice vb.qw vb.nw vb.cw, .int .i64 vb.lo, .int .i64 vb.hi, .int .i64 vb.op, .slice vb.qk vb.nk vb.ck, .int .i64 vc.kind, .string vc.attr, .slice vc.qi vc.ni vc.ci, .slice vc.qw vc.nw vc.cw, .int .i64 vc.lo, .int .i64 vc.hi, .int .i64 vc.op, .slice vc.qk vc.nk vc.ck] 31)))))
          clear F16
          have F16 := F16'
          clear F16'
          have H17' := (hide (((((Below.refl W.heap.size W).alloc (Nat.le_refl _) (.cells #[.int .i64 vb.kind, .string vb.attr, .slice vb.qi vb.ni vb.ci, .slice vb.qw vb.nw vb.cw, .int .i64 vb.lo, .int .i64 vb.hi, .int .i64 vb.op, .slice vb.qk vb.nk vb.ck, .int .i64 vc.kind, .string vc.attr, .slice vc.qi vc.ni vc.ci, .slice vc.qw vc.nw vc.cw, .int .i64 vc.lo, .int .i64 vc.hi, .int .i64 vc.op, .slice vc.qk vc.nk vc.ck] 31))).block _ (heap_lt (unhide H17))).trans (unhide H17)))
          clear H17
          have H17 := H17'
          clear H17'
          have F18' := (hide ((unhide F18).keep (((Below.refl W.heap.size W).alloc (Nat.le_refl _) (.cells #[.int .i64 vb.kind, .string vb.attr, .slice vb.qi vb.ni vb.ci, .slice vb.qw vb.nw vb.cw, .int .i64 vb.lo, .int .i64 vb.hi, .int .i64 vb.op, .slice vb.qk vb.nk vb.ck, .int .i64 vc.kind, .string vc.attr, .slice vc.qi vc.ni vc.ci, .slice vc.qw vc.nw vc.cw, .int .i64 vc.lo, .int .i64 vc.hi, .int .i64 vc.op, .slice vc.qk vc.nk vc.ck] 31)))))
          clear F18
          have F18 := F18'
          clear F18'
          obtain ⟨M33, eM33⟩ : ∃ m, W.heap.size = m := ⟨_, rfl⟩
          obtain ⟨W, eW⟩ : ∃ m, World.alloc W (.cells #[.int .i64 vb.kind, .string vb.attr, .slice vb.qi vb.ni vb.ci, .slice vb.qw vb.nw vb.cw, .int .i64 vb.lo, .int .i64 vb.hi, .int .i64 vb.op, .slice vb.qk vb.nk vb.ck, .int .i64 vc.kind, .string vc.attr, .slice vc.qi vc.ni vc.ci, .slice vc.qw vc.nw vc.cw, .int .i64 vc.lo, .int .i64 vc.hi, .int .i64 vc.op, .slice vc.qk vc.nk vc.ck] 31) = m := ⟨_, rfl⟩
          rw [eM33] at H33
          rw [eW] at R2 H33 hHeld H3 F4 H5 F6 H11 F12 H15 F16 H17 F18
          rw [eW]
          simp only [eM33]
          clear R eW eM33
          have R := R2
          clear R2
          refine wpAnyH_ready (rs := [34]) (by kernel_rfl) (by simp) ?_
          refine AllReadyH.cons (o := { dst := some 149, op := Op.call { callee := Callee.value (Operand.func 20), args := #[Operand.tmp 148], argTypes := #[22] }, type := 31, pos := "law.go:63", after := #[{ on := 33, ground := Ground.data }, { on := 26, ground := Ground.chain }, { on := 22, ground := Ground.guard }], guard := some (22, true) }) rfl (fun K hK => ?_) AllReadyH.nil
          go_simp
          refine (cOr b c vb vc M33 _ (unhide H33) ((unhide Nb).keep (unhide R)) ((unhide Nc).keep (unhide R)) (by have := unhide HW; omega)).mono ?_
          rintro e W ⟨⟨v34, rfl, bn⟩, bb⟩
          simp only [Nv.val]
          clear hHeld
          refine hK.out _ _ (KS _ (below_sub (unhide R) bb)) (fun hHeld => ?_)
          clear hK K
          have R2 := hide (below_sub (unhide R) bb)
          have H3' := (hide (((bb).block _ (heap_lt (unhide H3))).trans (unhide H3)))
          clear H3
          have H3 := H3'
          clear H3'
          have F4' := (hide ((unhide F4).keep (bb)))
          clear F4
          have F4 := F4'
          clear F4'
          have H5' := (hide (((bb).block _ (heap_lt (unhide H5))).trans (unhide H5)))
          clear H5
          have H5 := H5'
          clear H5'
          have F6' := (hide ((unhide F6).keep (bb)))
          clear F6
          have F6 := F6'
          clear F6'
          have H11' := (hide (((bb).block _ (heap_lt (unhide H11))).trans (unhide H11)))
          clear H11
          have H11 := H11'
          clear H11'
          have F12' := (hide ((unhide F12).keep (bb)))
          clear F12
          have F12 := F12'
          clear F12'
          have H15' := (hide (((bb).block _ (heap_lt (unhide H15))).trans (unhide H15)))
          clear H15
          have H15 := H15'
          clear H15'
          have F16' := (hide ((unhide F16).keep (bb)))
          clear F16
          have F16 := F16'
          clear F16'
          have H17' := (hide (((bb).block _ (heap_lt (unhide H17))).trans (unhide H17)))
          clear H17
          have H17 := H17'
          clear H17'
          have F18' := (hide ((unhide F18).keep (bb)))
          clear F18
          have F18 := F18'
          clear F18'
          have H33' := (hide (((bb).block _ (heap_lt (unhide H33))).trans (unhide H33)))
          clear H33
          have H33 := H33'
          clear H33'
          have F34 := hide bn.toIn
          clear bn
          clear bb R
          have R := R2
          clear R2
          refine wpAnyH_ready (rs := [35]) (by kernel_rfl) (by simp) ?_
          refine AllReadyH.cons (o := { dst := some 150, op := Op.buildSlice 22 2 #[(0, Operand.tmp 145), (1, Operand.tmp 149)], type := 22, pos := "law.go:63", after := #[{ on := 30, ground := Ground.data }, { on := 34, ground := Ground.data }, { on := 22, ground := Ground.guard }], guard := some (22, true) }) rfl (fun K hK => ?_) AllReadyH.nil
          go_simp
          clear hHeld
          refine hK.out _ _ (KS _ ((unhide R).alloc (unhide R).size _)) (fun hHeld => ?_)
          clear hK K
          have R2 := hide ((unhide R).alloc (unhide R).size (.cells #[.int .i64 va.kind, .string va.attr, .slice va.qi va.ni va.ci, .slice va.qw va.nw va.cw, .int .i64 va.lo, .int .i64 va.hi, .int .i64 va.op, .slice va.qk va.nk va.ck, .int .i64 v34.kind, .string v34.attr, .slice v34.qi v34.ni v34.ci, .slice v34.qw v34.nw v34.cw, .int .i64 v34.lo, .int .i64 v34.hi, .int .i64 v34.op, .slice v34.qk v34.nk v34.ck] 31))
          have H35 := hide (box_nw W (.cells #[.int .i64 va.kind, .string va.attr, .slice va.qi va.ni va.ci, .slice va.qw va.nw va.cw, .int .i64 va.lo, .int .i64 va.hi, .int .i64 va.op, .slice va.qk va.nk va.ck, .int .i64 v34.kind, .string v34.attr, .slice v34.qi v34.ni v34.ci, .slice v34.qw v34.nw v34.cw, .int .i64 v34.lo, .int .i64 v34.hi, .int .i64 v34.op, .slice v34.qk v34.nk v34.ck] 31))
          have H3' := (hide (((((Below.refl W.heap.size W).alloc (Nat.le_refl _) (.cells #[.int .i64 va.kind, .string va.attr, .slice va.qi va.ni va.ci, .slice va.qw va.nw va.cw, .int .i64 va.lo, .int .i64 va.hi, .int .i64 va.op, .slice va.qk va.nk va.ck, .int .i64 v34.kind, .string v34.attr, .slice v34.qi v34.ni v34.ci, .slice v34.qw v34.nw v34.cw, .int .i64 v34.lo, .int .i64 v34.hi, .int .i64 v34.op, .slice v34.qk v34.nk v34.ck] 31))).block _ (heap_lt (unhide H3))).trans (unhide H3)))
          clear H3
          have H3 := H3'
          clear H3'
          have F4' := (hide ((unhide F4).keep (((Below.refl W.heap.size W).alloc (Nat.le_refl _) (.cells #[.int .i64 va.kind, .string va.attr, .slice va.qi va.ni va.ci, .slice va.qw va.nw va.cw, .int .i64 va.lo, .int .i64 va.hi, .int .i64 va.op, .slice va.qk va.nk va.ck, .int .i64 v34.kind, .string v34.attr, .slice v34.qi v34.ni v34.ci, .slice v34.qw v34.nw v34.cw, .int .i64 v34.lo, .int .i64 v34.hi, .int .i64 v34.op, .slice v34.qk v34.nk v34.ck] 31)))))
          clear F4
          have F4 := F4'
          clear F4'
          have H5' := (hide (((((Below.refl W.heap.size W).alloc (Nat.le_refl _) (.cells #[.int .i64 va.kind, .string va.attr, .slice va.qi va.ni va.ci, .slice va.qw va.nw va.cw, .int .i64 va.lo, .int .i64 va.hi, .int .i64 va.op, .slice va.qk va.nk va.ck, .int .i64 v34.kind, .string v34.attr, .slice v34.qi v34.ni v34.ci, .slice v34.qw v34.nw v34.cw, .int .i64 v34.lo, .int .i64 v34.hi, .int .i64 v34.op, .slice v34.qk v34.nk v34.ck] 31))).block _ (heap_lt (unhide H5))).trans (unhide H5)))
          clear H5
          have H5 := H5'
          clear H5'
          have F6' := (hide ((unhide F6).keep (((Below.refl W.heap.size W).alloc (Nat.le_refl _) (.cells #[.int .i64 va.kind, .string va.attr, .slice va.qi va.ni va.ci, .slice va.qw va.nw va.cw, .int .i64 va.lo, .int .i64 va.hi, .int .i64 va.op, .slice va.qk va.nk va.ck, .int .i64 v34.kind, .string v34.attr, .slice v34.qi v34.ni v34.ci, .slice v34.qw v34.nw v34.cw, .int .i64 v34.lo, .int .i64 v34.hi, .int .i64 v34.op, .slice v34.qk v34.nk v34.ck] 31)))))
          clear F6
          have F6 := F6'
          clear F6'
          have H11' := (hide (((((Below.refl W.heap.size W).alloc (Nat.le_refl _) (.cells #[.int .i64 va.kind, .string va.attr, .slice va.qi va.ni va.ci, .slice va.qw va.nw va.cw, .int .i64 va.lo, .int .i64 va.hi, .int .i64 va.op, .slice va.qk va.nk va.ck, .int .i64 v34.kind, .string v34.attr, .slice v34.qi v34.ni v34.ci, .slice v34.qw v34.nw v34.cw, .int .i64 v34.lo, .int .i64 v34.hi, .int .i64 v34.op, .slice v34.qk v34.nk v34.ck] 31))).block _ (heap_lt (unhide H11))).trans (unhide H11)))
          clear H11
          have H11 := H11'
          clear H11'
          have F12' := (hide ((unhide F12).keep (((Below.refl W.heap.size W).alloc (Nat.le_refl _) (.cells #[.int .i64 va.kind, .string va.attr, .slice va.qi va.ni va.ci, .slice va.qw va.nw va.cw, .int .i64 va.lo, .int .i64 va.hi, .int .i64 va.op, .slice va.qk va.nk va.ck, .int .i64 v34.kind, .string v34.attr, .slice v34.qi v34.ni v34.ci, .slice v34.qw v34.nw v34.cw, .int .i64 v34.lo, .int .i64 v34.hi, .int .i64 v34.op, .slice v34.qk v34.nk v34.ck] 31)))))
          clear F12
          have F12 := F12'
          clear F12'
          have H15' := (hide (((((Below.refl W.heap.size W).alloc (Nat.le_refl _) (.cells #[.int .i64 va.kind, .string va.attr, .slice va.qi va.ni va.ci, .slice va.qw va.nw va.cw, .int .i64 va.lo, .int .i64 va.hi, .int .i64 va.op, .slice va.qk va.nk va.ck, .int .i64 v34.kind, .string v34.attr, .slice v34.qi v34.ni v34.ci, .slice v34.qw v34.nw v34.cw, .int .i64 v34.lo, .int .i64 v34.hi, .int .i64 v34.op, .slice v34.qk v34.nk v34.ck] 31))).block _ (heap_lt (unhide H15))).trans (unhide H15)))
          clear H15
          have H15 := H15'
          clear H15'
          have F16' := (hide ((unhide F16).keep (((Below.refl W.heap.size W).alloc (Nat.le_refl _) (.cells #[.int .i64 va.kind, .string va.attr, .slice va.qi va.ni va.ci, .slice va.qw va.nw va.cw, .int .i64 va.lo, .int .i64 va.hi, .int .i64 va.op, .slice va.qk va.nk va.ck, .int .i64 v34.kind, .string v34.attr, .slice v34.qi v34.ni v34.ci, .slice v34.qw v34.nw v34.cw, .int .i64 v34.lo, .int .i64 v34.hi, .int .i64 v34.op, .slice v34.qk v34.nk v34.ck] 31)))))
          clear F16
          have F16 := F16'
          clear F16'
          have H17' := (hide (((((Below.refl W.heap.size W).alloc (Nat.le_refl _) (.cells #[.int .i64 va.kind, .string va.attr, .slice va.qi va.ni va.ci, .slice va.qw va.nw va.cw, .int .i64 va.lo, .int .i64 va.hi, .int .i64 va.op, .slice va.qk va.nk va.ck, .int .i64 v34.kind, .string v34.attr, .slice v34.qi v34.ni v34.ci, .slice v34.qw v34.nw v34.cw, .int .i64 v34.lo, .int .i64 v34.hi, .int .i64 v34.op, .slice v34.qk v34.nk v34.ck] 31))).block _ (heap_lt (unhide H17))).trans (unhide H17)))
          clear H17
          have H17 := H17'
          clear H17'
          have F18' := (hide ((unhide F18).keep (((Below.refl W.heap.size W).alloc (Nat.le_refl _) (.cells #[.int .i64 va.kind, .string va.attr, .slice va.qi va.ni va.ci, .slice va.qw va.nw va.cw, .int .i64 va.lo, .int .i64 va.hi, .int .i64 va.op, .slice va.qk va.nk va.ck, .int .i64 v34.kind, .string v34.attr, .slice v34.qi v34.ni v34.ci, .slice v34.qw v34.nw v34.cw, .int .i64 v34.lo, .int .i64 v34.hi, .int .i64 v34.op, .slice v34.qk v34.nk v34.ck] 31)))))
          clear F18
          have F18 := F18'
          clear F18'
          have H33' := (hide (((((Below.refl W.heap.size W).alloc (Nat.le_refl _) (.cells #[.int .i64 va.kind, .string va.attr, .slice va.qi va.ni va.ci, .slice va.qw va.nw va.cw, .int .i64 va.lo, .int .i64 va.hi, .int .i64 va.op, .slice va.qk va.nk va.ck, .int .i64 v34.kind, .string v34.attr, .slice v34.qi v34.ni v34.ci, .slice v34.qw v34.nw v34.cw, .int .i64 v34.lo, .int .i64 v34.hi, .int .i64 v34.op, .slice v34.qk v34.nk v34.ck] 31))).block _ (heap_lt (unhide H33))).trans (unhide H33)))
          clear H33
          have H33 := H33'
          clear H33'
          have F34' := (hide ((unhide F34).keep (((Below.refl W.heap.size W).alloc (Nat.le_refl _) (.cells #[.int .i64 va.kind, .string va.attr, .slice va.qi va.ni va.ci, .slice va.qw va.nw va.cw, .int .i64 va.lo, .int .i64 va.hi, .int .i64 va.op, .slice va.qk va.nk va.ck, .int .i64 v34.kind, .string v34.attr, .slice v34.qi v34.ni v34.ci, .slice v34.qw v34.nw v34.cw, .int .i64 v34.lo, .int .i64 v34.hi, .int .i64 v34.op, .slice v34.qk v34.nk v34.ck] 31)))))
          clear F34
          have F34 := F34'
          clear F34'
          obtain ⟨M35, eM35⟩ : ∃ m, W.heap.size = m := ⟨_, rfl⟩
          obtain ⟨W, eW⟩ : ∃ m, World.alloc W (.cells #[.int .i64 va.kind, .string va.attr, .slice va.qi va.ni va.ci, .slice va.qw va.nw va.cw, .int .i64 va.lo, .int .i64 va.hi, .int .i64 va.op, .slice va.qk va.nk va.ck, .int .i64 v34.kind, .string v34.attr, .slice v34.qi v34.ni v34.ci, .slice v34.qw v34.nw v34.cw, .int .i64 v34.lo, .int .i64 v34.hi, .int .i64 v34.op, .slice v34.qk v34.nk v34.ck] 31) = m := ⟨_, rfl⟩
          rw [eM35] at H35
          rw [eW] at R2 H35 hHeld H3 F4 H5 F6 H11 F12 H15 F16 H17 F18 H33 F34
          rw [eW]
          simp only [eM35]
          clear R eW eM35
          have R := R2
          clear R2
          refine wpAnyH_ready (rs := [36]) (by kernel_rfl) (by simp) ?_
          refine AllReadyH.cons (o := { dst := some 151, op := Op.call { callee := Callee.value (Operand.func 19), args := #[Operand.tmp 150], argTypes := #[22] }, type := 31, pos := "law.go:63", after := #[{ on := 35, ground := Ground.data }, { on := 34, ground := Ground.chain }, { on := 22, ground := Ground.guard }], guard := some (22, true) }) rfl (fun K hK => ?_) AllReadyH.nil
          go_simp
          refine (cAnd a (joinT 4 [b, c]) va v34 M35 _ (unhide H35) ((unhide Na).keep (unhide R)) (unhide F34) (by have := unhide HW; have := w2 4 b c; omega)).mono ?_
          rintro e W ⟨⟨v36, rfl, bn⟩, bb⟩
          simp only [Nv.val]
          clear hHeld
          refine hK.out _ _ (KS _ (below_sub (unhide R) bb)) (fun hHeld => ?_)
          clear hK K
          have R2 := hide (below_sub (unhide R) bb)
          have H3' := (hide (((bb).block _ (heap_lt (unhide H3))).trans (unhide H3)))
          clear H3
          have H3 := H3'
          clear H3'
          have F4' := (hide ((unhide F4).keep (bb)))
          clear F4
          have F4 := F4'
          clear F4'
          have H5' := (hide (((bb).block _ (heap_lt (unhide H5))).trans (unhide H5)))
          clear H5
          have H5 := H5'
          clear H5'
          have F6' := (hide ((unhide F6).keep (bb)))
          clear F6
          have F6 := F6'
          clear F6'
          have H11' := (hide (((bb).block _ (heap_lt (unhide H11))).trans (unhide H11)))
          clear H11
          have H11 := H11'
          clear H11'
          have F12' := (hide ((unhide F12).keep (bb)))
          clear F12
          have F12 := F12'
          clear F12'
          have H15' := (hide (((bb).block _ (heap_lt (unhide H15))).trans (unhide H15)))
          clear H15
          have H15 := H15'
          clear H15'
          have F16' := (hide ((unhide F16).keep (bb)))
          clear F16
          have F16 := F16'
          clear F16'
          have H17' := (hide (((bb).block _ (heap_lt (unhide H17))).trans (unhide H17)))
          clear H17
          have H17 := H17'
          clear H17'
          have F18' := (hide ((unhide F18).keep (bb)))
          clear F18
          have F18 := F18'
          clear F18'
          have H33' := (hide (((bb).block _ (heap_lt (unhide H33))).trans (unhide H33)))
          clear H33
          have H33 := H33'
          clear H33'
          have F34' := (hide ((unhide F34).keep (bb)))
          clear F34
          have F34 := F34'
          clear F34'
          have H35' := (hide (((bb).block _ (heap_lt (unhide H35))).trans (unhide H35)))
          clear H35
          have H35 := H35'
          clear H35'
          have F36 := hide bn.toIn
          clear bn
          clear bb R
          have R := R2
          clear R2
          refine wpAnyH_ready (rs := [38]) (by kernel_rfl) (by simp) ?_
          refine AllReadyH.cons (o := { dst := some 153, op := Op.call { callee := Callee.value (Operand.func 8), args := #[Operand.tmp 151, Operand.tmp 152], argTypes := #[31, 23] }, type := 4, pos := "law.go:63", after := #[{ on := 36, ground := Ground.data }, { on := 37, ground := Ground.data }, { on := 36, ground := Ground.chain }, { on := 22, ground := Ground.guard }], guard := some (22, true) }) rfl (fun K hK => ?_) AllReadyH.nil
          go_simp
          refine (cEv (joinT 3 [a, (joinT 4 [b, c])]) v36 qe ce ev _ false (unhide F36) ((unhide HE).below (unhide R)) (ck2 3 (Or.inl rfl) a (joinT 4 [b, c]) (unhide HCa) (ck2 4 (Or.inr rfl) b c (unhide HCb) (unhide HCc))) ((tA2 ev a (joinT 4 [b, c])).trans (congr (congrArg and (unhide HXa)) ((tO2 ev b c).trans (congr (congrArg or (unhide HXb)) (unhide HXc))))) (by have := unhide HW; have := w2 3 a (joinT 4 [b, c]); have := w2 4 b c; omega) (unhide HL)).mono ?_
          rintro e W ⟨rfl, bb⟩
          clear hHeld
          refine hK.out _ _ (KS _ (below_sub (unhide R) bb)) (fun hHeld => ?_)
          clear hK K
          have R2 := hide (below_sub (unhide R) bb)
          have H3' := (hide (((bb).block _ (heap_lt (unhide H3))).trans (unhide H3)))
          clear H3
          have H3 := H3'
          clear H3'
          have F4' := (hide ((unhide F4).keep (bb)))
          clear F4
          have F4 := F4'
          clear F4'
          have H5' := (hide (((bb).block _ (heap_lt (unhide H5))).trans (unhide H5)))
          clear H5
          have H5 := H5'
          clear H5'
          have F6' := (hide ((unhide F6).keep (bb)))
          clear F6
          have F6 := F6'
          clear F6'
          have H11' := (hide (((bb).block _ (heap_lt (unhide H11))).trans (unhide H11)))
          clear H11
          have H11 := H11'
          clear H11'
          have F12' := (hide ((unhide F12).keep (bb)))
          clear F12
          have F12 := F12'
          clear F12'
          have H15' := (hide (((bb).block _ (heap_lt (unhide H15))).trans (unhide H15)))
          clear H15
          have H15 := H15'
          clear H15'
          have F16' := (hide ((unhide F16).keep (bb)))
          clear F16
          have F16 := F16'
          clear F16'
          have H17' := (hide (((bb).block _ (heap_lt (unhide H17))).trans (unhide H17)))
          clear H17
          have H17 := H17'
          clear H17'
          have F18' := (hide ((unhide F18).keep (bb)))
          clear F18
          have F18 := F18'
          clear F18'
          have H33' := (hide (((bb).block _ (heap_lt (unhide H33))).trans (unhide H33)))
          clear H33
          have H33 := H33'
          clear H33'
          have F34' := (hide ((unhide F34).keep (bb)))
          clear F34
          have F34 := F34'
          clear F34'
          have H35' := (hide (((bb).block _ (heap_lt (unhide H35))).trans (unhide H35)))
          clear H35
          have H35 := H35'
          clear H35'
          have F36' := (hide ((unhide F36).keep (bb)))
          clear F36
          have F36 := F36'
          clear F36'
          clear bb R
          have R := R2
          clear R2
          refine wpAnyH_take (i := 39) (oi := { dst := some 154, op := Op.binOp BinOp.eql 4 (Operand.tmp 144) (Operand.tmp 153) 4, type := 4, pos := "law.go:63", after := #[{ on := 29, ground := Ground.data }, { on := 38, ground := Ground.data }, { on := 22, ground := Ground.guard }], guard := some (22, true) }) (v := ?_) rfl (by kernel_rfl) (by kernel_rfl) (by kernel_rfl) (fun c a w => (unhide HP) c a _ _ w) (Or.inl ⟨by rfl, ?_⟩) (by assumption) ?_
          rotate_left
          · intro wq hSw
            go_simp
            with_reducible rfl
          simp only [Act.put, List.setIfInBounds_toArray, List.set_cons_zero, List.set_cons_succ]
          refine wpAnyH_take (i := 40) (oi := { dst := some 155, op := Op.pick (Operand.tmp 137) (Operand.tmp 154) (Operand.const (Value.bool false)), type := 4, pos := "law.go:63", after := #[{ on := 22, ground := Ground.data }, { on := 39, ground := Ground.data }], guard := none }) (v := ?_) rfl (by kernel_rfl) (by kernel_rfl) (by kernel_rfl) (fun c a w => (unhide HP) c a _ _ w) (Or.inl ⟨by rfl, ?_⟩) (by assumption) ?_
          rotate_left
          · intro wq hSw
            go_simp
            with_reducible rfl
          simp only [Act.put, List.setIfInBounds_toArray, List.set_cons_zero, List.set_cons_succ]
          refine wpAnyH_take (i := 41) (oi := { dst := some 8, op := Op.assign (Operand.tmp 155), type := 4, pos := "law.go:63", after := #[{ on := 40, ground := Ground.data }, { on := 38, ground := Ground.chain }, { on := 0, ground := Ground.phase }, { on := 1, ground := Ground.phase }, { on := 2, ground := Ground.phase }, { on := 3, ground := Ground.phase }, { on := 4, ground := Ground.phase }, { on := 5, ground := Ground.phase }, { on := 6, ground := Ground.phase }, { on := 7, ground := Ground.phase }, { on := 8, ground := Ground.phase }, { on := 9, ground := Ground.phase }, { on := 10, ground := Ground.phase }, { on := 11, ground := Ground.phase }, { on := 12, ground := Ground.phase }, { on := 13, ground := Ground.phase }, { on := 14, ground := Ground.phase }, { on := 15, ground := Ground.phase }, { on := 16, ground := Ground.phase }, { on := 17, ground := Ground.phase }, { on := 18, ground := Ground.phase }, { on := 19, ground := Ground.phase }, { on := 20, ground := Ground.phase }, { on := 21, ground := Ground.phase }, { on := 22, ground := Ground.phase }, { on := 23, ground := Ground.phase }, { on := 24, ground := Ground.phase }, { on := 25, ground := Ground.phase }, { on := 26, ground := Ground.phase }, { on := 27, ground := Ground.phase }, { on := 28, ground := Ground.phase }, { on := 29, ground := Ground.phase }, { on := 30, ground := Ground.phase }, { on := 31, ground := Ground.phase }, { on := 32, ground := Ground.phase }, { on := 33, ground := Ground.phase }, { on := 34, ground := Ground.phase }, { on := 35, ground := Ground.phase }, { on := 36, ground := Ground.phase }, { on := 37, ground := Ground.phase }, { on := 38, ground := Ground.phase }, { on := 39, ground := Ground.phase }, { on := 40, ground := Ground.phase }], guard := none }) (v := ?_) rfl (by kernel_rfl) (by kernel_rfl) (by kernel_rfl) (fun c a w => (unhide HP) c a _ _ w) (Or.inl ⟨by rfl, ?_⟩) (by assumption) ?_
          rotate_left
          · intro wq hSw
            go_simp
            with_reducible rfl
          simp only [Act.put, List.setIfInBounds_toArray, List.set_cons_zero, List.set_cons_succ]
          refine wpAnyH_done (by kernel_rfl) ?_ _
          exact (unhide HQ) W _ _ _ _ _ _ _ _ _ _ _ _ _ _ _ _ _ _ _ _ _ _ _ _ _ _ _ _ _ _ _ _ _ _ _ _ _ _ _ _ _ (unhide R)
        · refine wpAnyH_take (i := 21) (oi := { dst := some 136, op := Op.binOp BinOp.eql 4 (Operand.tmp 123) (Operand.tmp 135) 4, type := 4, pos := "law.go:63", after := #[{ on := 8, ground := Ground.data }, { on := 20, ground := Ground.data }], guard := none }) (v := ?_) rfl (by kernel_rfl) (by kernel_rfl) (by kernel_rfl) (fun c a w => (unhide HP) c a _ _ w) (Or.inl ⟨by rfl, ?_⟩) (by assumption) ?_
          rotate_left
          · intro wq hSw
            go_simp
            with_reducible rfl
          simp only [Act.put, List.setIfInBounds_toArray, List.set_cons_zero, List.set_cons_succ]
          refine wpAnyH_take (i := 22) (oi := { dst := some 137, op := Op.move (Operand.tmp 136), type := 4, pos := "law.go:63", after := #[{ on := 21, ground := Ground.data }, { on := 20, ground := Ground.chain }], guard := none }) (v := ?_) rfl (by kernel_rfl) (by kernel_rfl) (by kernel_rfl) (fun c a w => (unhide HP) c a _ _ w) (Or.inl ⟨by rfl, ?_⟩) (by assumption) ?_
          rotate_left
          · intro wq hSw
            go_simp
            with_reducible rfl
          simp only [Act.put, List.setIfInBounds_toArray, List.set_cons_zero, List.set_cons_succ]
          refine wpAnyH_take (i := 23) (oi := { dst := some 138, op := Op.move (Operand.tmp 9), type := 4, pos := "law.go:63", after := #[{ on := 22, ground := Ground.guard }], guard := some (22, true) }) (v := ?_) rfl (by kernel_rfl) (by kernel_rfl) (by kernel_rfl) (fun c a w => (unhide HP) c a _ _ w) (Or.inl ⟨by rfl, ?_⟩) (by assumption) ?_
          rotate_left
          · intro wq hSw
            go_simp
            with_reducible rfl
          simp only [Act.put, List.setIfInBounds_toArray, List.set_cons_zero, List.set_cons_succ]
          refine wpAnyH_take (i := 24) (oi := { dst := some 139, op := Op.move (Operand.tmp 138), type := 4, pos := "law.go:63", after := #[{ on := 23, ground := Ground.data }, { on := 22, ground := Ground.chain }, { on := 22, ground := Ground.guard }], guard := some (22, true) }) (v := ?_) rfl (by kernel_rfl) (by kernel_rfl) (by kernel_rfl) (fun c a w => (unhide HP) c a _ _ w) (Or.inl ⟨by rfl, ?_⟩) (by assumption) ?_
          rotate_left
          · intro wq hSw
            go_simp
            with_reducible rfl
          simp only [Act.put, List.setIfInBounds_toArray, List.set_cons_zero, List.set_cons_succ]
          refine wpAnyH_take (i := 25) (oi := { dst := some 140, op := Op.move (Operand.tmp 10), type := 4, pos := "law.go:63", after := #[{ on := 24, ground := Ground.guard }], guard := some (24, true) }) (v := ?_) rfl (by kernel_rfl) (by kernel_rfl) (by kernel_rfl) (fun c a w => (unhide HP) c a _ _ w) (Or.inl ⟨by rfl, ?_⟩) (by assumption) ?_
          rotate_left
          · intro wq hSw
            go_simp
            with_reducible rfl
          simp only [Act.put, List.setIfInBounds_toArray, List.set_cons_zero, List.set_cons_succ]
          refine wpAnyH_take (i := 26) (oi := { dst := some 141, op := Op.move (Operand.tmp 140), type := 4, pos := "law.go:63", after := #[{ on := 25, ground := Ground.data }, { on := 24, ground := Ground.chain }, { on := 24, ground := Ground.guard }], guard := some (24, true) }) (v := ?_) rfl (by kernel_rfl) (by kernel_rfl) (by kernel_rfl) (fun c a w => (unhide HP) c a _ _ w) (Or.inl ⟨by rfl, ?_⟩) (by assumption) ?_
          rotate_left
          · intro wq hSw
            go_simp
            with_reducible rfl
          simp only [Act.put, List.setIfInBounds_toArray, List.set_cons_zero, List.set_cons_succ]
          refine wpAnyH_take (i := 27) (oi := { dst := some 142, op := Op.move (Operand.tmp 11), type := 4, pos := "law.go:63", after := #[{ on := 26, ground := Ground.guard }], guard := some (26, false) }) (v := ?_) rfl (by kernel_rfl) (by kernel_rfl) (by kernel_rfl) (fun c a w => (unhide HP) c a _ _ w) (Or.inl ⟨by rfl, ?_⟩) (by assumption) ?_
          rotate_left
          · intro wq hSw
            go_simp
            with_reducible rfl
          simp only [Act.put, List.setIfInBounds_toArray, List.set_cons_zero, List.set_cons_succ]
          refine wpAnyH_take (i := 28) (oi := { dst := some 143, op := Op.pick (Operand.tmp 141) (Operand.const (Value.bool true)) (Operand.tmp 142), type := 4, pos := "law.go:63", after := #[{ on := 26, ground := Ground.data }, { on := 27, ground := Ground.data }, { on := 24, ground := Ground.guard }], guard := some (24, true) }) (v := ?_) rfl (by kernel_rfl) (by kernel_rfl) (by kernel_rfl) (fun c a w => (unhide HP) c a _ _ w) (Or.inl ⟨by rfl, ?_⟩) (by assumption) ?_
          rotate_left
          · intro wq hSw
            go_simp
            with_reducible rfl
          simp only [Act.put, List.setIfInBounds_toArray, List.set_cons_zero, List.set_cons_succ]
          refine wpAnyH_take (i := 29) (oi := { dst := some 144, op := Op.pick (Operand.tmp 139) (Operand.tmp 143) (Operand.const (Value.bool false)), type := 4, pos := "law.go:63", after := #[{ on := 24, ground := Ground.data }, { on := 28, ground := Ground.data }, { on := 22, ground := Ground.guard }], guard := some (22, true) }) (v := ?_) rfl (by kernel_rfl) (by kernel_rfl) (by kernel_rfl) (fun c a w => (unhide HP) c a _ _ w) (Or.inl ⟨by rfl, ?_⟩) (by assumption) ?_
          rotate_left
          · intro wq hSw
            go_simp
            with_reducible rfl
          simp only [Act.put, List.setIfInBounds_toArray, List.set_cons_zero, List.set_cons_succ]
          refine wpAnyH_take (i := 30) (oi := { dst := some 145, op := Op.load 31 (Operand.tmp 4), type := 31, pos := "law.go:63", after := #[{ on := 22, ground := Ground.guard }], guard := some (22, true) }) (v := ?_) rfl (by kernel_rfl) (by kernel_rfl) (by kernel_rfl) (fun c a w => (unhide HP) c a _ _ w) (Or.inl ⟨by rfl, ?_⟩) (by assumption) ?_
          rotate_left
          · intro wq hSw
            go_simp
            with_reducible rfl
          simp only [Act.put, List.setIfInBounds_toArray, List.set_cons_zero, List.set_cons_succ]
          refine wpAnyH_take (i := 31) (oi := { dst := some 146, op := Op.load 31 (Operand.tmp 5), type := 31, pos := "law.go:63", after := #[{ on := 22, ground := Ground.guard }], guard := some (22, true) }) (v := ?_) rfl (by kernel_rfl) (by kernel_rfl) (by kernel_rfl) (fun c a w => (unhide HP) c a _ _ w) (Or.inl ⟨by rfl, ?_⟩) (by assumption) ?_
          rotate_left
          · intro wq hSw
            go_simp
            with_reducible rfl
          simp only [Act.put, List.setIfInBounds_toArray, List.set_cons_zero, List.set_cons_succ]
          refine wpAnyH_take (i := 32) (oi := { dst := some 147, op := Op.load 31 (Operand.tmp 6), type := 31, pos := "law.go:63", after := #[{ on := 22, ground := Ground.guard }], guard := some (22, true) }) (v := ?_) rfl (by kernel_rfl) (by kernel_rfl) (by kernel_rfl) (fun c a w => (unhide HP) c a _ _ w) (Or.inl ⟨by rfl, ?_⟩) (by assumption) ?_
          rotate_left
          · intro wq hSw
            go_simp
            with_reducible rfl
          simp only [Act.put, List.setIfInBounds_toArray, List.set_cons_zero, List.set_cons_succ]
          refine wpAnyH_take (i := 37) (oi := { dst := some 152, op := Op.move (Operand.tmp 3), type := 23, pos := "law.go:63", after := #[{ on := 22, ground := Ground.guard }], guard := some (22, true) }) (v := ?_) rfl (by kernel_rfl) (by kernel_rfl) (by kernel_rfl) (fun c a w => (unhide HP) c a _ _ w) (Or.inl ⟨by rfl, ?_⟩) (by assumption) ?_
          rotate_left
          · intro wq hSw
            go_simp
            with_reducible rfl
          simp only [Act.put, List.setIfInBounds_toArray, List.set_cons_zero, List.set_cons_succ]
          refine wpAnyH_ready (rs := [33]) (by kernel_rfl) (by simp) ?_
          refine AllReadyH.cons (o := { dst := some 148, op := Op.buildSlice 22 2 #[(0, Operand.tmp 146), (1, Operand.tmp 147)], type := 22, pos := "law.go:63", after := #[{ on := 31, ground := Ground.data }, { on := 32, ground := Ground.data }, { on := 22, ground := Ground.guard }], guard := some (22, true) }) rfl (fun K hK => ?_) AllReadyH.nil
          go_simp
          clear hHeld
          refine hK.out _ _ (KS _ ((unhide R).alloc (unhide R).size _)) (fun hHeld => ?_)
          clear hK K
          have R2 := hide ((unhide R).alloc (unhide R).size (.cells #[.int .i64 vb.kind, .string vb.attr, .slice vb.qi vb.ni vb.ci, .slice vb.qw vb.nw vb.cw, .int .i64 vb.lo, .int .i64 vb.hi, .int .i64 vb.op, .slice vb.qk vb.nk vb.ck, .int .i64 vc.kind, .string vc.attr, .slice vc.qi vc.ni vc.ci, .slice vc.qw vc.nw vc.cw, .int .i64 vc.lo, .int .i64 vc.hi, .int .i64 vc.op, .slice vc.qk vc.nk vc.ck] 31))
          have H33 := hide (box_nw W (.cells #[.int .i64 vb.kind, .string vb.attr, .slice vb.qi vb.ni vb.ci, .slice vb.qw vb.nw vb.cw, .int .i64 vb.lo, .int .i64 vb.hi, .int .i64 vb.op, .slice vb.qk vb.nk vb.ck, .int .i64 vc.kind, .string vc.attr, .slice vc.qi vc.ni vc.ci, .slice vc.qw vc.nw vc.cw, .int .i64 vc.lo, .int .i64 vc.hi, .int .i64 vc.op, .slice vc.qk vc.nk vc.ck] 31))
          have H3' := (hide (((((Below.refl W.heap.size W).alloc (Nat.le_refl _) (.cells #[.int .i64 vb.kind, .string vb.attr, .slice vb.qi vb.ni vb.ci, .slice vb.qw vb.nw vb.cw, .int .i64 vb.lo, .int .i64 vb.hi, .int .i64 vb.op, .slice vb.qk vb.nk vb.ck, .int .i64 vc.kind, .string vc.attr, .slice vc.qi vc.ni vc.ci, .slice vc.qw vc.nw vc.cw, .int .i64 vc.lo, .int .i64 vc.hi, .int .i64 vc.op, .slice vc.qk vc.nk vc.ck] 31))).block _ (heap_lt (unhide H3))).trans (unhide H3)))
          clear H3
          have H3 := H3'
          clear H3'
          have F4' := (hide ((unhide F4).keep (((Below.refl W.heap.size W).alloc (Nat.le_refl _) (.cells #[.int .i64 vb.kind, .string vb.attr, .slice vb.qi vb.ni vb.ci, .slice vb.qw vb.nw vb.cw, .int .i64 vb.lo, .int .i64 vb.hi, .int .i64 vb.op, .slice vb.qk vb.nk vb.ck, .int .i64 vc.kind, .string vc.attr, .slice vc.qi vc.ni vc.ci, .slice vc.qw vc.nw vc.cw, .int .i64 vc.lo, .int .i64 vc.hi, .int .i64 vc.op, .slice vc.qk vc.nk vc.ck] 31)))))
          clear F4
          have F4 := F4'
          clear F4'
          have H5' := (hide (((((Below.refl W.heap.size W).alloc (Nat.le_refl _) (.cells #[.int .i64 vb.kind, .string vb.attr, .slice vb.qi vb.ni vb.ci, .slice vb.qw vb.nw vb.cw, .int .i64 vb.lo, .int .i64 vb.hi, .int .i64 vb.op, .slice vb.qk vb.nk vb.ck, .int .i64 vc.kind, .string vc.attr, .slice vc.qi vc.ni vc.ci, .slice vc.qw vc.nw vc.cw, .int .i64 vc.lo, .int .i64 vc.hi, .int .i64 vc.op, .slice vc.qk vc.nk vc.ck] 31))).block _ (heap_lt (unhide H5))).trans (unhide H5)))
          clear H5
          have H5 := H5'
          clear H5'
          have F6' := (hide ((unhide F6).keep (((Below.refl W.heap.size W).alloc (Nat.le_refl _) (.cells #[.int .i64 vb.kind, .string vb.attr, .slice vb.qi vb.ni vb.ci, .slice vb.qw vb.nw vb.cw, .int .i64 vb.lo, .int .i64 vb.hi, .int .i64 vb.op, .slice vb.qk vb.nk vb.ck, .int .i64 vc.kind, .string vc.attr, .slice vc.qi vc.ni vc.ci, .slice vc.qw vc.nw vc.cw, .int .i64 vc.lo, .int .i64 vc.hi, .int .i64 vc.op, .slice vc.qk vc.nk vc.ck] 31)))))
          clear F6
          have F6 := F6'
          clear F6'
          have H11' := (hide (((((Below.refl W.heap.size W).alloc (Nat.le_refl _) (.cells #[.int .i64 vb.kind, .string vb.attr, .slice vb.qi vb.ni vb.ci, .slice vb.qw vb.nw vb.cw, .int .i64 vb.lo, .int .i64 vb.hi, .int .i64 vb.op, .slice vb.qk vb.nk vb.ck, .int .i64 vc.kind, .string vc.attr, .slice vc.qi vc.ni vc.ci, .slice vc.qw vc.nw vc.cw, .int .i64 vc.lo, .int .i64 vc.hi, .int .i64 vc.op, .slice vc.qk vc.nk vc.ck] 31))).block _ (heap_lt (unhide H11))).trans (unhide H11)))
          clear H11
          have H11 := H11'
          clear H11'
          have F12' := (hide ((unhide F12).keep (((Below.refl W.heap.size W).alloc (Nat.le_refl _) (.cells #[.int .i64 vb.kind, .string vb.attr, .slice vb.qi vb.ni vb.ci, .slice vb.qw vb.nw vb.cw, .int .i64 vb.lo, .int .i64 vb.hi, .int .i64 vb.op, .slice vb.qk vb.nk vb.ck, .int .i64 vc.kind, .string vc.attr, .slice vc.qi vc.ni vc.ci, .slice vc.qw vc.nw vc.cw, .int .i64 vc.lo, .int .i64 vc.hi, .int .i64 vc.op, .slice vc.qk vc.nk vc.ck] 31)))))
          clear F12
          have F12 := F12'
          clear F12'
          have H15' := (hide (((((Below.refl W.heap.size W).alloc (Nat.le_refl _) (.cells #[.int .i64 vb.kind, .string vb.attr, .slice vb.qi vb.ni vb.ci, .slice vb.qw vb.nw vb.cw, .int .i64 vb.lo, .int .i64 vb.hi, .int .i64 vb.op, .slice vb.qk vb.nk vb.ck, .int .i64 vc.kind, .string vc.attr, .slice vc.qi vc.ni vc.ci, .slice vc.qw vc.nw vc.cw, .int .i64 vc.lo, .int .i64 vc.hi, .int .i64 vc.op, .slice vc.qk vc.nk vc.ck] 31))).block _ (heap_lt (unhide H15))).trans (unhide H15)))
          clear H15
          have H15 := H15'
          clear H15'
          have F16' := (hide ((unhide F16).keep (((Below.refl W.heap.size W).alloc (Nat.le_refl _) (.cells #[.int .i64 vb.kind, .string vb.attr, .slice vb.qi vb.ni vb.ci, .slice vb.qw vb.nw vb.cw, .int .i64 vb.lo, .int .i64 vb.hi, .int .i64 vb.op, .slice vb.qk vb.nk vb.ck, .int .i64 vc.kind, .string vc.attr, .slice vc.qi vc.ni vc.ci, .slice vc.qw vc.nw vc.cw, .int .i64 vc.lo, .int .i64 vc.hi, .int .i64 vc.op, .slice vc.qk vc.nk vc.ck] 31)))))
          clear F16
          have F16 := F16'
          clear F16'
          have H17' := (hide (((((Below.refl W.heap.size W).alloc (Nat.le_refl _) (.cells #[.int .i64 vb.kind, .string vb.attr, .slice vb.qi vb.ni vb.ci, .slice vb.qw vb.nw vb.cw, .int .i64 vb.lo, .int .i64 vb.hi, .int .i64 vb.op, .slice vb.qk vb.nk vb.ck, .int .i64 vc.kind, .string vc.attr, .slice vc.qi vc.ni vc.ci, .slice vc.qw vc.nw vc.cw, .int .i64 vc.lo, .int .i64 vc.hi, .int .i64 vc.op, .slice vc.qk vc.nk vc.ck] 31))).block _ (heap_lt (unhide H17))).trans (unhide H17)))
          clear H17
          have H17 := H17'
          clear H17'
          have F18' := (hide ((unhide F18).keep (((Below.refl W.heap.size W).alloc (Nat.le_refl _) (.cells #[.int .i64 vb.kind, .string vb.attr, .slice vb.qi vb.ni vb.ci, .slice vb.qw vb.nw vb.cw, .int .i64 vb.lo, .int .i64 vb.hi, .int .i64 vb.op, .slice vb.qk vb.nk vb.ck, .int .i64 vc.kind, .string vc.attr, .slice vc.qi vc.ni vc.ci, .slice vc.qw vc.nw vc.cw, .int .i64 vc.lo, .int .i64 vc.hi, .int .i64 vc.op, .slice vc.qk vc.nk vc.ck] 31)))))
          clear F18
          have F18 := F18'
          clear F18'
          obtain ⟨M33, eM33⟩ : ∃ m, W.heap.size = m := ⟨_, rfl⟩
          obtain ⟨W, eW⟩ : ∃ m, World.alloc W (.cells #[.int .i64 vb.kind, .string vb.attr, .slice vb.qi vb.ni vb.ci, .slice vb.qw vb.nw vb.cw, .int .i64 vb.lo, .int .i64 vb.hi, .int .i64 vb.op, .slice vb.qk vb.nk vb.ck, .int .i64 vc.kind, .string vc.attr, .slice vc.qi vc.ni vc.ci, .slice vc.qw vc.nw vc.cw, .int .i64 vc.lo, .int .i64 vc.hi, .int .i64 vc.op, .slice vc.qk vc.nk vc.ck] 31) = m := ⟨_, rfl⟩
          rw [eM33] at H33
          rw [eW] at R2 H33 hHeld H3 F4 H5 F6 H11 F12 H15 F16 H17 F18
          rw [eW]
          simp only [eM33]
          clear R eW eM33
          have R := R2
          clear R2
          refine wpAnyH_ready (rs := [34]) (by kernel_rfl) (by simp) ?_
          refine AllReadyH.cons (o := { dst := some 149, op := Op.call { callee := Callee.value (Operand.func 20), args := #[Operand.tmp 148], argTypes := #[22] }, type := 31, pos := "law.go:63", after := #[{ on := 33, ground := Ground.data }, { on := 26, ground := Ground.chain }, { on := 22, ground := Ground.guard }], guard := some (22, true) }) rfl (fun K hK => ?_) AllReadyH.nil
          go_simp
          refine (cOr b c vb vc M33 _ (unhide H33) ((unhide Nb).keep (unhide R)) ((unhide Nc).keep (unhide R)) (by have := unhide HW; omega)).mono ?_
          rintro e W ⟨⟨v34, rfl, bn⟩, bb⟩
          simp only [Nv.val]
          clear hHeld
          refine hK.out _ _ (KS _ (below_sub (unhide R) bb)) (fun hHeld => ?_)
          clear hK K
          have R2 := hide (below_sub (unhide R) bb)
          have H3' := (hide (((bb).block _ (heap_lt (unhide H3))).trans (unhide H3)))
          clear H3
          have H3 := H3'
          clear H3'
          have F4' := (hide ((unhide F4).keep (bb)))
          clear F4
          have F4 := F4'
          clear F4'
          have H5' := (hide (((bb).block _ (heap_lt (unhide H5))).trans (unhide H5)))
          clear H5
          have H5 := H5'
          clear H5'
          have F6' := (hide ((unhide F6).keep (bb)))
          clear F6
          have F6 := F6'
          clear F6'
          have H11' := (hide (((bb).block _ (heap_lt (unhide H11))).trans (unhide H11)))
          clear H11
          have H11 := H11'
          clear H11'
          have F12' := (hide ((unhide F12).keep (bb)))
          clear F12
          have F12 := F12'
          clear F12'
          have H15' := (hide (((bb).block _ (heap_lt (unhide H15))).trans (unhide H15)))
          clear H15
          have H15 := H15'
          clear H15'
          have F16' := (hide ((unhide F16).keep (bb)))
          clear F16
          have F16 := F16'
          clear F16'
          have H17' := (hide (((bb).block _ (heap_lt (unhide H17))).trans (unhide H17)))
          clear H17
          have H17 := H17'
          clear H17'
          have F18' := (hide ((unhide F18).keep (bb)))
          clear F18
          have F18 := F18'
          clear F18'
          have H33' := (hide (((bb).block _ (heap_lt (unhide H33))).trans (unhide H33)))
          clear H33
          have H33 := H33'
          clear H33'
          have F34 := hide bn.toIn
          clear bn
          clear bb R
          have R := R2
          clear R2
          refine wpAnyH_ready (rs := [35]) (by kernel_rfl) (by simp) ?_
          refine AllReadyH.cons (o := { dst := some 150, op := Op.buildSlice 22 2 #[(0, Operand.tmp 145), (1, Operand.tmp 149)], type := 22, pos := "law.go:63", after := #[{ on := 30, ground := Ground.data }, { on := 34, ground := Ground.data }, { on := 22, ground := Ground.guard }], guard := some (22, true) }) rfl (fun K hK => ?_) AllReadyH.nil
          go_simp
          clear hHeld
          refine hK.out _ _ (KS _ ((unhide R).alloc (unhide R).size _)) (fun hHeld => ?_)
          clear hK K
          have R2 := hide ((unhide R).alloc (unhide R).size (.cells #[.int .i64 va.kind, .string va.attr, .slice va.qi va.ni va.ci, .slice va.qw va.nw va.cw, .int .i64 va.lo, .int .i64 va.hi, .int .i64 va.op, .slice va.qk va.nk va.ck, .int .i64 v34.kind, .string v34.attr, .slice v34.qi v34.ni v34.ci, .slice v34.qw v34.nw v34.cw, .int .i64 v34.lo, .int .i64 v34.hi, .int .i64 v34.op, .slice v34.qk v34.nk v34.ck] 31))
          have H35 := hide (box_nw W (.cells #[.int .i64 va.kind, .string va.attr, .slice va.qi va.ni va.ci, .slice va.qw va.nw va.cw, .int .i64 va.lo, .int .i64 va.hi, .int .i64 va.op, .slice va.qk va.nk va.ck, .int .i64 v34.kind, .string v34.attr, .slice v34.qi v34.ni v34.ci, .slice v34.qw v34.nw v34.cw, .int .i64 v34.lo, .int .i64 v34.hi, .int .i64 v34.op, .slice v34.qk v34.nk v34.ck] 31))
          have H3' := (hide (((((Below.refl W.heap.size W).alloc (Nat.le_refl _) (.cells #[.int .i64 va.kind, .string va.attr, .slice va.qi va.ni va.ci, .slice va.qw va.nw va.cw, .int .i64 va.lo, .int .i64 va.hi, .int .i64 va.op, .slice va.qk va.nk va.ck, .int .i64 v34.kind, .string v34.attr, .slice v34.qi v34.ni v34.ci, .slice v34.qw v34.nw v34.cw, .int .i64 v34.lo, .int .i64 v34.hi, .int .i64 v34.op, .slice v34.qk v34.nk v34.ck] 31))).block _ (heap_lt (unhide H3))).trans (unhide H3)))
          clear H3
          have H3 := H3'
          clear H3'
          have F4' := (hide ((unhide F4).keep (((Below.refl W.heap.size W).alloc (Nat.le_refl _) (.cells #[.int .i64 va.kind, .string va.attr, .slice va.qi va.ni va.ci, .slice va.qw va.nw va.cw, .int .i64 va.lo, .int .i64 va.hi, .int .i64 va.op, .slice va.qk va.nk va.ck, .int .i64 v34.kind, .string v34.attr, .slice v34.qi v34.ni v34.ci, .slice v34.qw v34.nw v34.cw, .int .i64 v34.lo, .int .i64 v34.hi, .int .i64 v34.op, .slice v34.qk v34.nk v34.ck] 31)))))
          clear F4
          have F4 := F4'
          clear F4'
          have H5' := (hide (((((Below.refl W.heap.size W).alloc (Nat.le_refl _) (.cells #[.int .i64 va.kind, .string va.attr, .slice va.qi va.ni va.ci, .slice va.qw va.nw va.cw, .int .i64 va.lo, .int .i64 va.hi, .int .i64 va.op, .slice va.qk va.nk va.ck, .int .i64 v34.kind, .string v34.attr, .slice v34.qi v34.ni v34.ci, .slice v34.qw v34.nw v34.cw, .int .i64 v34.lo, .int .i64 v34.hi, .int .i64 v34.op, .slice v34.qk v34.nk v34.ck] 31))).block _ (heap_lt (unhide H5))).trans (unhide H5)))
          clear H5
          have H5 := H5'
          clear H5'
          have F6' := (hide ((unhide F6).keep (((Below.refl W.heap.size W).alloc (Nat.le_refl _) (.cells #[.int .i64 va.kind, .string va.attr, .slice va.qi va.ni va.ci, .slice va.qw va.nw va.cw, .int .i64 va.lo, .int .i64 va.hi, .int .i64 va.op, .slice va.qk va.nk va.ck, .int .i64 v34.kind, .string v34.attr, .slice v34.qi v34.ni v34.ci, .slice v34.qw v34.nw v34.cw, .int .i64 v34.lo, .int .i64 v34.hi, .int .i64 v34.op, .slice v34.qk v34.nk v34.ck] 31)))))
          clear F6
          have F6 := F6'
          clear F6'
          have H11' := (hide (((((Below.refl W.heap.size W).alloc (Nat.le_refl _) (.cells #[.int .i64 va.kind, .string va.attr, .slice va.qi va.ni va.ci, .slice va.qw va.nw va.cw, .int .i64 va.lo, .int .i64 va.hi, .int .i64 va.op, .slice va.qk va.nk va.ck, .int .i64 v34.kind, .string v34.attr, .slice v34.qi v34.ni v34.ci, .slice v34.qw v34.nw v34.cw, .int .i64 v34.lo, .int .i64 v34.hi, .int .i64 v34.op, .slice v34.qk v34.nk v34.ck] 31))).block _ (heap_lt (unhide H11))).trans (unhide H11)))
          clear H11
          have H11 := H11'
          clear H11'
          have F12' := (hide ((unhide F12).keep (((Below.refl W.heap.size W).alloc (Nat.le_refl _) (.cells #[.int .i64 va.kind, .string va.attr, .slice va.qi va.ni va.ci, .slice va.qw va.nw va.cw, .int .i64 va.lo, .int .i64 va.hi, .int .i64 va.op, .slice va.qk va.nk va.ck, .int .i64 v34.kind, .string v34.attr, .slice v34.qi v34.ni v34.ci, .slice v34.qw v34.nw v34.cw, .int .i64 v34.lo, .int .i64 v34.hi, .int .i64 v34.op, .slice v34.qk v34.nk v34.ck] 31)))))
          clear F12
          have F12 := F12'
          clear F12'
          have H15' := (hide (((((Below.refl W.heap.size W).alloc (Nat.le_refl _) (.cells #[.int .i64 va.kind, .string va.attr, .slice va.qi va.ni va.ci, .slice va.qw va.nw va.cw, .int .i64 va.lo, .int .i64 va.hi, .int .i64 va.op, .slice va.qk va.nk va.ck, .int .i64 v34.kind, .string v34.attr, .slice v34.qi v34.ni v34.ci, .slice v34.qw v34.nw v34.cw, .int .i64 v34.lo, .int .i64 v34.hi, .int .i64 v34.op, .slice v34.qk v34.nk v34.ck] 31))).block _ (heap_lt (unhide H15))).trans (unhide H15)))
          clear H15
          have H15 := H15'
          clear H15'
          have F16' := (hide ((unhide F16).keep (((Below.refl W.heap.size W).alloc (Nat.le_refl _) (.cells #[.int .i64 va.kind, .string va.attr, .slice va.qi va.ni va.ci, .slice va.qw va.nw va.cw, .int .i64 va.lo, .int .i64 va.hi, .int .i64 va.op, .slice va.qk va.nk va.ck, .int .i64 v34.kind, .string v34.attr, .slice v34.qi v34.ni v34.ci, .slice v34.qw v34.nw v34.cw, .int .i64 v34.lo, .int .i64 v34.hi, .int .i64 v34.op, .slice v34.qk v34.nk v34.ck] 31)))))
          clear F16
          have F16 := F16'
          clear F16'
          have H17' := (hide (((((Below.refl W.heap.size W).alloc (Nat.le_refl _) (.cells #[.int .i64 va.kind, .string va.attr, .slice va.qi va.ni va.ci, .slice va.qw va.nw va.cw, .int .i64 va.lo, .int .i64 va.hi, .int .i64 va.op, .slice va.qk va.nk va.ck, .int .i64 v34.kind, .string v34.attr, .slice v34.qi v34.ni v34.ci, .slice v34.qw v34.nw v34.cw, .int .i64 v34.lo, .int .i64 v34.hi, .int .i64 v34.op, .slice v34.qk v34.nk v34.ck] 31))).block _ (heap_lt (unhide H17))).trans (unhide H17)))
          clear H17
          have H17 := H17'
          clear H17'
          have F18' := (hide ((unhide F18).keep (((Below.refl W.heap.size W).alloc (Nat.le_refl _) (.cells #[.int .i64 va.kind, .string va.attr, .slice va.qi va.ni va.ci, .slice va.qw va.nw va.cw, .int .i64 va.lo, .int .i64 va.hi, .int .i64 va.op, .slice va.qk va.nk va.ck, .int .i64 v34.kind, .string v34.attr, .slice v34.qi v34.ni v34.ci, .slice v34.qw v34.nw v34.cw, .int .i64 v34.lo, .int .i64 v34.hi, .int .i64 v34.op, .slice v34.qk v34.nk v34.ck] 31)))))
          clear F18
          have F18 := F18'
          clear F18'
          have H33' := (hide (((((Below.refl W.heap.size W).alloc (Nat.le_refl _) (.cells #[.int .i64 va.kind, .string va.attr, .slice va.qi va.ni va.ci, .slice va.qw va.nw va.cw, .int .i64 va.lo, .int .i64 va.hi, .int .i64 va.op, .slice va.qk va.nk va.ck, .int .i64 v34.kind, .string v34.attr, .slice v34.qi v34.ni v34.ci, .slice v34.qw v34.nw v34.cw, .int .i64 v34.lo, .int .i64 v34.hi, .int .i64 v34.op, .slice v34.qk v34.nk v34.ck] 31))).block _ (heap_lt (unhide H33))).trans (unhide H33)))
          clear H33
          have H33 := H33'
          clear H33'
          have F34' := (hide ((unhide F34).keep (((Below.refl W.heap.size W).alloc (Nat.le_refl _) (.cells #[.int .i64 va.kind, .string va.attr, .slice va.qi va.ni va.ci, .slice va.qw va.nw va.cw, .int .i64 va.lo, .int .i64 va.hi, .int .i64 va.op, .slice va.qk va.nk va.ck, .int .i64 v34.kind, .string v34.attr, .slice v34.qi v34.ni v34.ci, .slice v34.qw v34.nw v34.cw, .int .i64 v34.lo, .int .i64 v34.hi, .int .i64 v34.op, .slice v34.qk v34.nk v34.ck] 31)))))
          clear F34
          have F34 := F34'
          clear F34'
          obtain ⟨M35, eM35⟩ : ∃ m, W.heap.size = m := ⟨_, rfl⟩
          obtain ⟨W, eW⟩ : ∃ m, World.alloc W (.cells #[.int .i64 va.kind, .string va.attr, .slice va.qi va.ni va.ci, .slice va.qw va.nw va.cw, .int .i64 va.lo, .int .i64 va.hi, .int .i64 va.op, .slice va.qk va.nk va.ck, .int .i64 v34.kind, .string v34.attr, .slice v34.qi v34.ni v34.ci, .slice v34.qw v34.nw v34.cw, .int .i64 v34.lo, .int .i64 v34.hi, .int .i64 v34.op, .slice v34.qk v34.nk v34.ck] 31) = m := ⟨_, rfl⟩
          rw [eM35] at H35
          rw [eW] at R2 H35 hHeld H3 F4 H5 F6 H11 F12 H15 F16 H17 F18 H33 F34
          rw [eW]
          simp only [eM35]
          clear R eW eM35
          have R := R2
          clear R2
          refine wpAnyH_ready (rs := [36]) (by kernel_rfl) (by simp) ?_
          refine AllReadyH.cons (o := { dst := some 151, op := Op.call { callee := Callee.value (Operand.func 19), args := #[Operand.tmp 150], argTypes := #[22] }, type := 31, pos := "law.go:63", after := #[{ on := 35, ground := Ground.data }, { on := 34, ground := Ground.chain }, { on := 22, ground := Ground.guard }], guard := some (22, true) }) rfl (fun K hK => ?_) AllReadyH.nil
          go_simp
          refine (cAnd a (joinT 4 [b, c]) va v34 M35 _ (unhide H35) ((unhide Na).keep (unhide R)) (unhide F34) (by have := unhide HW; have := w2 4 b c; omega)).mono ?_
          rintro e W ⟨⟨v36, rfl, bn⟩, bb⟩
          simp only [Nv.val]
          clear hHeld
          refine hK.out _ _ (KS _ (below_sub (unhide R) bb)) (fun hHeld => ?_)
          clear hK K
          have R2 := hide (below_sub (unhide R) bb)
          have H3' := (hide (((bb).block _ (heap_lt (unhide H3))).trans (unhide H3)))
          clear H3
          have H3 := H3'
          clear H3'
          have F4' := (hide ((unhide F4).keep (bb)))
          clear F4
          have F4 := F4'
          clear F4'
          have H5' := (hide (((bb).block _ (heap_lt (unhide H5))).trans (unhide H5)))
          clear H5
          have H5 := H5'
          clear H5'
          have F6' := (hide ((unhide F6).keep (bb)))
          clear F6
          have F6 := F6'
          clear F6'
          have H11' := (hide (((bb).block _ (heap_lt (unhide H11))).trans (unhide H11)))
          clear H11
          have H11 := H11'
          clear H11'
          have F12' := (hide ((unhide F12).keep (bb)))
          clear F12
          have F12 := F12'
          clear F12'
          have H15' := (hide (((bb).block _ (heap_lt (unhide H15))).trans (unhide H15)))
          clear H15
          have H15 := H15'
          clear H15'
          have F16' := (hide ((unhide F16).keep (bb)))
          clear F16
          have F16 := F16'
          clear F16'
          have H17' := (hide (((bb).block _ (heap_lt (unhide H17))).trans (unhide H17)))
          clear H17
          have H17 := H17'
          clear H17'
          have F18' := (hide ((unhide F18).keep (bb)))
          clear F18
          have F18 := F18'
          clear F18'
          have H33' := (hide (((bb).block _ (heap_lt (unhide H33))).trans (unhide H33)))
          clear H33
          have H33 := H33'
          clear H33'
          have F34' := (hide ((unhide F34).keep (bb)))
          clear F34
          have F34 := F34'
          clear F34'
          have H35' := (hide (((bb).block _ (heap_lt (unhide H35))).trans (unhide H35)))
          clear H35
          have H35 := H35'
          clear H35'
          have F36 := hide bn.toIn
          clear bn
          clear bb R
          have R := R2
          clear R2
          refine wpAnyH_ready (rs := [38]) (by kernel_rfl) (by simp) ?_
          refine AllReadyH.cons (o := { dst := some 153, op := Op.call { callee := Callee.value (Operand.func 8), args := #[Operand.tmp 151, Operand.tmp 152], argTypes := #[31, 23] }, type := 4, pos := "law.go:63", after := #[{ on := 36, ground := Ground.data }, { on := 37, ground := Ground.data }, { on := 36, ground := Ground.chain }, { on := 22, ground := Ground.guard }], guard := some (22, true) }) rfl (fun K hK => ?_) AllReadyH.nil
          go_simp
          refine (cEv (joinT 3 [a, (joinT 4 [b, c])]) v36 qe ce ev _ true (unhide F36) ((unhide HE).below (unhide R)) (ck2 3 (Or.inl rfl) a (joinT 4 [b, c]) (unhide HCa) (ck2 4 (Or.inr rfl) b c (unhide HCb) (unhide HCc))) ((tA2 ev a (joinT 4 [b, c])).trans (congr (congrArg and (unhide HXa)) ((tO2 ev b c).trans (congr (congrArg or (unhide HXb)) (unhide HXc))))) (by have := unhide HW; have := w2 3 a (joinT 4 [b, c]); have := w2 4 b c; omega) (unhide HL)).mono ?_
          rintro e W ⟨rfl, bb⟩
          clear hHeld
          refine hK.out _ _ (KS _ (below_sub (unhide R) bb)) (fun hHeld => ?_)
          clear hK K
          have R2 := hide (below_sub (unhide R) bb)
          have H3' := (hide (((bb).block _ (heap_lt (unhide H3))).trans (unhide H3)))
          clear H3
          have H3 := H3'
          clear H3'
          have F4' := (hide ((unhide F4).keep (bb)))
          clear F4
          have F4 := F4'
          clear F4'
          have H5' := (hide (((bb).block _ (heap_lt (unhide H5))).trans (unhide H5)))
          clear H5
          have H5 := H5'
          clear H5'
          have F6' := (hide ((unhide F6).keep (bb)))
          clear F6
          have F6 := F6'
          clear F6'
          have H11' := (hide (((bb).block _ (heap_lt (unhide H11))).trans (unhide H11)))
          clear H11
          have H11 := H11'
          clear H11'
          have F12' := (hide ((unhide F12).keep (bb)))
          clear F12
          have F12 := F12'
          clear F12'
          have H15' := (hide (((bb).block _ (heap_lt (unhide H15))).trans (unhide H15)))
          clear H15
          have H15 := H15'
          clear H15'
          have F16' := (hide ((unhide F16).keep (bb)))
          clear F16
          have F16 := F16'
          clear F16'
          have H17' := (hide (((bb).block _ (heap_lt (unhide H17))).trans (unhide H17)))
          clear H17
          have H17 := H17'
          clear H17'
          have F18' := (hide ((unhide F18).keep (bb)))
          clear F18
          have F18 := F18'
          clear F18'
          have H33' := (hide (((bb).block _ (heap_lt (unhide H33))).trans (unhide H33)))
          clear H33
          have H33 := H33'
          clear H33'
          have F34' := (hide ((unhide F34).keep (bb)))
          clear F34
          have F34 := F34'
          clear F34'
          have H35' := (hide (((bb).block _ (heap_lt (unhide H35))).trans (unhide H35)))
          clear H35
          have H35 := H35'
          clear H35'
          have F36' := (hide ((unhide F36).keep (bb)))
          clear F36
          have F36 := F36'
          clear F36'
          clear bb R
          have R := R2
          clear R2
          refine wpAnyH_take (i := 39) (oi := { dst := some 154, op := Op.binOp BinOp.eql 4 (Operand.tmp 144) (Operand.tmp 153) 4, type := 4, pos := "law.go:63", after := #[{ on := 29, ground := Ground.data }, { on := 38, ground := Ground.data }, { on := 22, ground := Ground.guard }], guard := some (22, true) }) (v := ?_) rfl (by kernel_rfl) (by kernel_rfl) (by kernel_rfl) (fun c a w => (unhide HP) c a _ _ w) (Or.inl ⟨by rfl, ?_⟩) (by assumption) ?_
          rotate_left
          · intro wq hSw
            go_simp
            with_reducible rfl
          simp only [Act.put, List.setIfInBounds_toArray, List.set_cons_zero, List.set_cons_succ]
          refine wpAnyH_take (i := 40) (oi := { dst := some 155, op := Op.pick (Operand.tmp 137) (Operand.tmp 154) (Operand.const (Value.bool false)), type := 4, pos := "law.go:63", after := #[{ on := 22, ground := Ground.data }, { on := 39, ground := Ground.data }], guard := none }) (v := ?_) rfl (by kernel_rfl) (by kernel_rfl) (by kernel_rfl) (fun c a w => (unhide HP) c a _ _ w) (Or.inl ⟨by rfl, ?_⟩) (by assumption) ?_
          rotate_left
          · intro wq hSw
            go_simp
            with_reducible rfl
          simp only [Act.put, List.setIfInBounds_toArray, List.set_cons_zero, List.set_cons_succ]
          refine wpAnyH_take (i := 41) (oi := { dst := some 8, op := Op.assign (Operand.tmp 155), type := 4, pos := "law.go:63", after := #[{ on := 40, ground := Ground.data }, { on := 38, ground := Ground.chain }, { on := 0, ground := Ground.phase }, { on := 1, ground := Ground.phase }, { on := 2, ground := Ground.phase }, { on := 3, ground := Ground.phase }, { on := 4, ground := Ground.phase }, { on := 5, ground := Ground.phase }, { on := 6, ground := Ground.phase }, { on := 7, ground := Ground.phase }, { on := 8, ground := Ground.phase }, { on := 9, ground := Ground.phase }, { on := 10, ground := Ground.phase }, { on := 11, ground := Ground.phase }, { on := 12, ground := Ground.phase }, { on := 13, ground := Ground.phase }, { on := 14, ground := Ground.phase }, { on := 15, ground := Ground.phase }, { on := 16, ground := Ground.phase }, { on := 17, ground := Ground.phase }, { on := 18, ground := Ground.phase }, { on := 19, ground := Ground.phase }, { on := 20, ground := Ground.phase }, { on := 21, ground := Ground.phase }, { on := 22, ground := Ground.phase }, { on := 23, ground := Ground.phase }, { on := 24, ground := Ground.phase }, { on := 25, ground := Ground.phase }, { on := 26, ground := Ground.phase }, { on := 27, ground := Ground.phase }, { on := 28, ground := Ground.phase }, { on := 29, ground := Ground.phase }, { on := 30, ground := Ground.phase }, { on := 31, ground := Ground.phase }, { on := 32, ground := Ground.phase }, { on := 33, ground := Ground.phase }, { on := 34, ground := Ground.phase }, { on := 35, ground := Ground.phase }, { on := 36, ground := Ground.phase }, { on := 37, ground := Ground.phase }, { on := 38, ground := Ground.phase }, { on := 39, ground := Ground.phase }, { on := 40, ground := Ground.phase }], guard := none }) (v := ?_) rfl (by kernel_rfl) (by kernel_rfl) (by kernel_rfl) (fun c a w => (unhide HP) c a _ _ w) (Or.inl ⟨by rfl, ?_⟩) (by assumption) ?_
          rotate_left
          · intro wq hSw
            go_simp
            with_reducible rfl
          simp only [Act.put, List.setIfInBounds_toArray, List.set_cons_zero, List.set_cons_succ]
          refine wpAnyH_done (by kernel_rfl) ?_ _
          exact (unhide HQ) W _ _ _ _ _ _ _ _ _ _ _ _ _ _ _ _ _ _ _ _ _ _ _ _ _ _ _ _ _ _ _ _ _ _ _ _ _ _ _ _ _ (unhide R)
      · refine wpAnyH_take (i := 21) (oi := { dst := some 136, op := Op.binOp BinOp.eql 4 (Operand.tmp 123) (Operand.tmp 135) 4, type := 4, pos := "law.go:63", after := #[{ on := 8, ground := Ground.data }, { on := 20, ground := Ground.data }], guard := none }) (v := ?_) rfl (by kernel_rfl) (by kernel_rfl) (by kernel_rfl) (fun c a w => (unhide HP) c a _ _ w) (Or.inl ⟨by rfl, ?_⟩) (by assumption) ?_
        rotate_left
        · intro wq hSw
          go_simp
          with_reducible rfl
        simp only [Act.put, List.setIfInBounds_toArray, List.set_cons_zero, List.set_cons_succ]
        refine wpAnyH_take (i := 22) (oi := { dst := some 137, op := Op.move (Operand.tmp 136), type := 4, pos := "law.go:63", after := #[{ on := 21, ground := Ground.data }, { on := 20, ground := Ground.chain }], guard := none }) (v := ?_) rfl (by kernel_rfl) (by kernel_rfl) (by kernel_rfl) (fun c a w => (unhide HP) c a _ _ w) (Or.inl ⟨by rfl, ?_⟩) (by assumption) ?_
        rotate_left
        · intro wq hSw
          go_simp
          with_reducible rfl
        simp only [Act.put, List.setIfInBounds_toArray, List.set_cons_zero, List.set_cons_succ]
        refine wpAnyH_take (i := 23) (oi := { dst := some 138, op := Op.move (Operand.tmp 9), type := 4, pos := "law.go:63", after := #[{ on := 22, ground := Ground.guard }], guard := some (22, true) }) (v := ?_) rfl (by kernel_rfl) (by kernel_rfl) (by kernel_rfl) (fun c a w => (unhide HP) c a _ _ w) (Or.inl ⟨by rfl, ?_⟩) (by assumption) ?_
        rotate_left
        · intro wq hSw
          go_simp
          with_reducible rfl
        simp only [Act.put, List.setIfInBounds_toArray, List.set_cons_zero, List.set_cons_succ]
        refine wpAnyH_take (i := 24) (oi := { dst := some 139, op := Op.move (Operand.tmp 138), type := 4, pos := "law.go:63", after := #[{ on := 23, ground := Ground.data }, { on := 22, ground := Ground.chain }, { on := 22, ground := Ground.guard }], guard := some (22, true) }) (v := ?_) rfl (by kernel_rfl) (by kernel_rfl) (by kernel_rfl) (fun c a w => (unhide HP) c a _ _ w) (Or.inl ⟨by rfl, ?_⟩) (by assumption) ?_
        rotate_left
        · intro wq hSw
          go_simp
          with_reducible rfl
        simp only [Act.put, List.setIfInBounds_toArray, List.set_cons_zero, List.set_cons_succ]
        refine wpAnyH_take (i := 25) (oi := { dst := some 140, op := Op.move (Operand.tmp 10), type := 4, pos := "law.go:63", after := #[{ on := 24, ground := Ground.guard }], guard := some (24, true) }) (v := ?_) rfl (by kernel_rfl) (by kernel_rfl) (by kernel_rfl) (fun c a w => (unhide HP) c a _ _ w) (Or.inl ⟨by rfl, ?_⟩) (by assumption) ?_
        rotate_left
        · intro wq hSw
          go_simp
          with_reducible rfl
        simp only [Act.put, List.setIfInBounds_toArray, List.set_cons_zero, List.set_cons_succ]
        refine wpAnyH_take (i := 26) (oi := { dst := some 141, op := Op.move (Operand.tmp 140), type := 4, pos := "law.go:63", after := #[{ on := 25, ground := Ground.data }, { on := 24, ground := Ground.chain }, { on := 24, ground := Ground.guard }], guard := some (24, true) }) (v := ?_) rfl (by kernel_rfl) (by kernel_rfl) (by kernel_rfl) (fun c a w => (unhide HP) c a _ _ w) (Or.inl ⟨by rfl, ?_⟩) (by assumption) ?_
        rotate_left
        · intro wq hSw
          go_simp
          with_reducible rfl
        simp only [Act.put, List.setIfInBounds_toArray, List.set_cons_zero, List.set_cons_succ]
        refine wpAnyH_take (i := 27) (oi := { dst := some 142, op := Op.move (Operand.tmp 11), type := 4, pos := "law.go:63", after := #[{ on := 26, ground := Ground.guard }], guard := some (26, false) }) (v := undef) rfl (by kernel_rfl) (by kernel_rfl) (by kernel_rfl) (fun c a w => (unhide HP) c a _ _ w) (Or.inr ⟨by rfl, rfl⟩) (by assumption) ?_
        simp only [Act.put, List.setIfInBounds_toArray, List.set_cons_zero, List.set_cons_succ]
        refine wpAnyH_take (i := 28) (oi := { dst := some 143, op := Op.pick (Operand.tmp 141) (Operand.const (Value.bool true)) (Operand.tmp 142), type := 4, pos := "law.go:63", after := #[{ on := 26, ground := Ground.data }, { on := 27, ground := Ground.data }, { on := 24, ground := Ground.guard }], guard := some (24, true) }) (v := ?_) rfl (by kernel_rfl) (by kernel_rfl) (by kernel_rfl) (fun c a w => (unhide HP) c a _ _ w) (Or.inl ⟨by rfl, ?_⟩) (by assumption) ?_
        rotate_left
        · intro wq hSw
          go_simp
          with_reducible rfl
        simp only [Act.put, List.setIfInBounds_toArray, List.set_cons_zero, List.set_cons_succ]
        refine wpAnyH_take (i := 29) (oi := { dst := some 144, op := Op.pick (Operand.tmp 139) (Operand.tmp 143) (Operand.const (Value.bool false)), type := 4, pos := "law.go:63", after := #[{ on := 24, ground := Ground.data }, { on := 28, ground := Ground.data }, { on := 22, ground := Ground.guard }], guard := some (22, true) }) (v := ?_) rfl (by kernel_rfl) (by kernel_rfl) (by kernel_rfl) (fun c a w => (unhide HP) c a _ _ w) (Or.inl ⟨by rfl, ?_⟩) (by assumption) ?_
        rotate_left
        · intro wq hSw
          go_simp
          with_reducible rfl
        simp only [Act.put, List.setIfInBounds_toArray, List.set_cons_zero, List.set_cons_succ]
        refine wpAnyH_take (i := 30) (oi := { dst := some 145, op := Op.load 31 (Operand.tmp 4), type := 31, pos := "law.go:63", after := #[{ on := 22, ground := Ground.guard }], guard := some (22, true) }) (v := ?_) rfl (by kernel_rfl) (by kernel_rfl) (by kernel_rfl) (fun c a w => (unhide HP) c a _ _ w) (Or.inl ⟨by rfl, ?_⟩) (by assumption) ?_
        rotate_left
        · intro wq hSw
          go_simp
          with_reducible rfl
        simp only [Act.put, List.setIfInBounds_toArray, List.set_cons_zero, List.set_cons_succ]
        refine wpAnyH_take (i := 31) (oi := { dst := some 146, op := Op.load 31 (Operand.tmp 5), type := 31, pos := "law.go:63", after := #[{ on := 22, ground := Ground.guard }], guard := some (22, true) }) (v := ?_) rfl (by kernel_rfl) (by kernel_rfl) (by kernel_rfl) (fun c a w => (unhide HP) c a _ _ w) (Or.inl ⟨by rfl, ?_⟩) (by assumption) ?_
        rotate_left
        · intro wq hSw
          go_simp
          with_reducible rfl
        simp only [Act.put, List.setIfInBounds_toArray, List.set_cons_zero, List.set_cons_succ]
        refine wpAnyH_take (i := 32) (oi := { dst := some 147, op := Op.load 31 (Operand.tmp 6), type := 31, pos := "law.go:63", after := #[{ on := 22, ground := Ground.guard }], guard := some (22, true) }) (v := ?_) rfl (by kernel_rfl) (by kernel_rfl) (by kernel_rfl) (fun c a w => (unhide HP) c a _ _ w) (Or.inl ⟨by rfl, ?_⟩) (by assumption) ?_
        rotate_left
        · intro wq hSw
          go_simp
          with_reducible rfl
        simp only [Act.put, List.setIfInBounds_toArray, List.set_cons_zero, List.set_cons_succ]
        refine wpAnyH_take (i := 37) (oi := { dst := some 152, op := Op.move (Operand.tmp 3), type := 23, pos := "law.go:63", after := #[{ on := 22, ground := Ground.guard }], guard := some (22, true) }) (v := ?_) rfl (by kernel_rfl) (by kernel_rfl) (by kernel_rfl) (fun c a w => (unhide HP) c a _ _ w) (Or.inl ⟨by rfl, ?_⟩) (by assumption) ?_
        rotate_left
        · intro wq hSw
          go_simp
          with_reducible rfl
        simp only [Act.put, List.setIfInBounds_toArray, List.set_cons_zero, List.set_cons_succ]
        refine wpAnyH_ready (rs := [33]) (by kernel_rfl) (by simp) ?_
        refine AllReadyH.cons (o := { dst := some 148, op := Op.buildSlice 22 2 #[(0, Operand.tmp 146), (1, Operand.tmp 147)], type := 22, pos := "law.go:63", after := #[{ on := 31, ground := Ground.data }, { on := 32, ground := Ground.data }, { on := 22, ground := Ground.guard }], guard := some (22, true) }) rfl (fun K hK => ?_) AllReadyH.nil
        go_simp
        clear hHeld
        refine hK.out _ _ (KS _ ((unhide R).alloc (unhide R).size _)) (fun hHeld => ?_)
        clear hK K
        have R2 := hide ((unhide R).alloc (unhide R).size (.cells #[.int .i64 vb.kind, .string vb.attr, .slice vb.qi vb.ni vb.ci, .slice vb.qw vb.nw vb.cw, .int .i64 vb.lo, .int .i64 vb.hi, .int .i64 vb.op, .slice vb.qk vb.nk vb.ck, .int .i64 vc.kind, .string vc.attr, .slice vc.qi vc.ni vc.ci, .slice vc.qw vc.nw vc.cw, .int .i64 vc.lo, .int .i64 vc.hi, .int .i64 vc.op, .slice vc.qk vc.nk vc.ck] 31))
        have H33 := hide (box_nw W (.cells #[.int .i64 vb.kind, .string vb.attr, .slice vb.qi vb.ni vb.ci, .slice vb.qw vb.nw vb.cw, .int .i64 vb.lo, .int .i64 vb.hi, .int .i64 vb.op, .slice vb.qk vb.nk vb.ck, .int .i64 vc.kind, .string vc.attr, .slice vc.qi vc.ni vc.ci, .slice vc.qw vc.nw vc.cw, .int .i64 vc.lo, .int .i64 vc.hi, .int .i64 vc.op, .slice vc.qk vc.nk vc.ck] 31))
        have H3' := (hide (((((Below.refl W.heap.size W).alloc (Nat.le_refl _) (.cells #[.int .i64 vb.kind, .string vb.attr, .slice vb.qi vb.ni vb.ci, .slice vb.qw vb.nw vb.cw, .int .i64 vb.lo, .int .i64 vb.hi, .int .i64 vb.op, .slice vb.qk vb.nk vb.ck, .int .i64 vc.kind, .string vc.attr, .slice vc.qi vc.ni vc.ci, .slice vc.qw vc.nw vc.cw, .int .i64 vc.lo, .int .i64 vc.hi, .int .i64 vc.op, .slice vc.qk vc.nk vc.ck] 31))).block _ (heap_lt (unhide H3))).trans (unhide H3)))
        clear H3
        have H3 := H3'
        clear H3'
        have F4' := (hide ((unhide F4).keep (((Below.refl W.heap.size W).alloc (Nat.le_refl _) (.cells #[.int .i64 vb.kind, .string vb.attr, .slice vb.qi vb.ni vb.ci, .slice vb.qw vb.nw vb.cw, .int .i64 vb.lo, .int .i64 vb.hi, .int .i64 vb.op, .slice vb.qk vb.nk vb.ck, .int .i64 vc.kind, .string vc.attr, .slice vc.qi vc.ni vc.ci, .slice vc.qw vc.nw vc.cw, .int .i64 vc.lo, .int .i64 vc.hi, .int .i64 vc.op, .slice vc.qk vc.nk vc.ck] 31)))))
        clear F4
        have F4 := F4'
        clear F4'
        have H5' := (hide (((((Below.refl W.heap.size W).alloc (Nat.le_refl _) (.cells #[.int .i64 vb.kind, .string vb.attr, .slice vb.qi vb.ni vb.ci, .slice vb.qw vb.nw vb.cw, .int .i64 vb.lo, .int .i64 vb.hi, .int .i64 vb.op, .slice vb.qk vb.nk vb.ck, .int .i64 vc.kind, .string vc.attr, .slice vc.qi vc.ni vc.ci, .slice vc.qw vc.nw vc.cw, .int .i64 vc.lo, .int .i64 vc.hi, .int .i64 vc.op, .slice vc.qk vc.nk vc.ck] 31))).block _ (heap_lt (unhide H5))).trans (unhide H5)))
        clear H5
        have H5 := H5'
        clear H5'
        have F6' := (hide ((unhide F6).keep (((Below.refl W.heap.size W).alloc (Nat.le_refl _) (.cells #[.int .i64 vb.kind, .string vb.attr, .slice vb.qi vb.ni vb.ci, .slice vb.qw vb.nw vb.cw, .int .i64 vb.lo, .int .i64 vb.hi, .int .i64 vb.op, .slice vb.qk vb.nk vb.ck, .int .i64 vc.kind, .string vc.attr, .slice vc.qi vc.ni vc.ci, .slice vc.qw vc.nw vc.cw, .int .i64 vc.lo, .int .i64 vc.hi, .int .i64 vc.op, .slice vc.qk vc.nk vc.ck] 31)))))
        clear F6
        have F6 := F6'
        clear F6'
        have H11' := (hide (((((Below.refl W.heap.size W).alloc (Nat.le_refl _) (.cells #[.int .i64 vb.kind, .string vb.attr, .slice vb.qi vb.ni vb.ci, .slice vb.qw vb.nw vb.cw, .int .i64 vb.lo, .int .i64 vb.hi, .int .i64 vb.op, .slice vb.qk vb.nk vb.ck, .int .i64 vc.kind, .string vc.attr, .slice vc.qi vc.ni vc.ci, .slice vc.qw vc.nw vc.cw, .int .i64 vc.lo, .int .i64 vc.hi, .int .i64 vc.op, .slice vc.qk vc.nk vc.ck] 31))).block _ (heap_lt (unhide H11))).trans (unhide H11)))
        clear H11
        have H11 := H11'
        clear H11'
        have F12' := (hide ((unhide F12).keep (((Below.refl W.heap.size W).alloc (Nat.le_refl _) (.cells #[.int .i64 vb.kind, .string vb.attr, .slice vb.qi vb.ni vb.ci, .slice vb.qw vb.nw vb.cw, .int .i64 vb.lo, .int .i64 vb.hi, .int .i64 vb.op, .slice vb.qk vb.nk vb.ck, .int .i64 vc.kind, .string vc.attr, .slice vc.qi vc.ni vc.ci, .slice vc.qw vc.nw vc.cw, .int .i64 vc.lo, .int .i64 vc.hi, .int .i64 vc.op, .slice vc.qk vc.nk vc.ck] 31)))))
        clear F12
        have F12 := F12'
        clear F12'
        have H15' := (hide (((((Below.refl W.heap.size W).alloc (Nat.le_refl _) (.cells #[.int .i64 vb.kind, .string vb.attr, .slice vb.qi vb.ni vb.ci, .slice vb.qw vb.nw vb.cw, .int .i64 vb.lo, .int .i64 vb.hi, .int .i64 vb.op, .slice vb.qk vb.nk vb.ck, .int .i64 vc.kind, .string vc.attr, .slice vc.qi vc.ni vc.ci, .slice vc.qw vc.nw vc.cw, .int .i64 vc.lo, .int .i64 vc.hi, .int .i64 vc.op, .slice vc.qk vc.nk vc.ck] 31))).block _ (heap_lt (unhide H15))).trans (unhide H15)))
        clear H15
        have H15 := H15'
        clear H15'
        have F16' := (hide ((unhide F16).keep (((Below.refl W.heap.size W).alloc (Nat.le_refl _) (.cells #[.int .i64 vb.kind, .string vb.attr, .slice vb.qi vb.ni vb.ci, .slice vb.qw vb.nw vb.cw, .int .i64 vb.lo, .int .i64 vb.hi, .int .i64 vb.op, .slice vb.qk vb.nk vb.ck, .int .i64 vc.kind, .string vc.attr, .slice vc.qi vc.ni vc.ci, .slice vc.qw vc.nw vc.cw, .int .i64 vc.lo, .int .i64 vc.hi, .int .i64 vc.op, .slice vc.qk vc.nk vc.ck] 31)))))
        clear F16
        have F16 := F16'
        clear F16'
        have H17' := (hide (((((Below.refl W.heap.size W).alloc (Nat.le_refl _) (.cells #[.int .i64 vb.kind, .string vb.attr, .slice vb.qi vb.ni vb.ci, .slice vb.qw vb.nw vb.cw, .int .i64 vb.lo, .int .i64 vb.hi, .int .i64 vb.op, .slice vb.qk vb.nk vb.ck, .int .i64 vc.kind, .string vc.attr, .slice vc.qi vc.ni vc.ci, .slice vc.qw vc.nw vc.cw, .int .i64 vc.lo, .int .i64 vc.hi, .int .i64 vc.op, .slice vc.qk vc.nk vc.ck] 31))).block _ (heap_lt (unhide H17))).trans (unhide H17)))
        clear H17
        have H17 := H17'
        clear H17'
        have F18' := (hide ((unhide F18).keep (((Below.refl W.heap.size W).alloc (Nat.le_refl _) (.cells #[.int .i64 vb.kind, .string vb.attr, .slice vb.qi vb.ni vb.ci, .slice vb.qw vb.nw vb.cw, .int .i64 vb.lo, .int .i64 vb.hi, .int .i64 vb.op, .slice vb.qk vb.nk vb.ck, .int .i64 vc.kind, .string vc.attr, .slice vc.qi vc.ni vc.ci, .slice vc.qw vc.nw vc.cw, .int .i64 vc.lo, .int .i64 vc.hi, .int .i64 vc.op, .slice vc.qk vc.nk vc.ck] 31)))))
        clear F18
        have F18 := F18'
        clear F18'
        obtain ⟨M33, eM33⟩ : ∃ m, W.heap.size = m := ⟨_, rfl⟩
        obtain ⟨W, eW⟩ : ∃ m, World.alloc W (.cells #[.int .i64 vb.kind, .string vb.attr, .slice vb.qi vb.ni vb.ci, .slice vb.qw vb.nw vb.cw, .int .i64 vb.lo, .int .i64 vb.hi, .int .i64 vb.op, .slice vb.qk vb.nk vb.ck, .int .i64 vc.kind, .string vc.attr, .slice vc.qi vc.ni vc.ci, .slice vc.qw vc.nw vc.cw, .int .i64 vc.lo, .int .i64 vc.hi, .int .i64 vc.op, .slice vc.qk vc.nk vc.ck] 31) = m := ⟨_, rfl⟩
        rw [eM33] at H33
        rw [eW] at R2 H33 hHeld H3 F4 H5 F6 H11 F12 H15 F16 H17 F18
        rw [eW]
        simp only [eM33]
        clear R eW eM33
        have R := R2
        clear R2
        refine wpAnyH_ready (rs := [34]) (by kernel_rfl) (by simp) ?_
        refine AllReadyH.cons (o := { dst := some 149, op := Op.call { callee := Callee.value (Operand.func 20), args := #[Operand.tmp 148], argTypes := #[22] }, type := 31, pos := "law.go:63", after := #[{ on := 33, ground := Ground.data }, { on := 26, ground := Ground.chain }, { on := 22, ground := Ground.guard }], guard := some (22, true) }) rfl (fun K hK => ?_) AllReadyH.nil
        go_simp
        refine (cOr b c vb vc M33 _ (unhide H33) ((unhide Nb).keep (unhide R)) ((unhide Nc).keep (unhide R)) (by have := unhide HW; omega)).mono ?_
        rintro e W ⟨⟨v34, rfl, bn⟩, bb⟩
        simp only [Nv.val]
        clear hHeld
        refine hK.out _ _ (KS _ (below_sub (unhide R) bb)) (fun hHeld => ?_)
        clear hK K
        have R2 := hide (below_sub (unhide R) bb)
        have H3' := (hide (((bb).block _ (heap_lt (unhide H3))).trans (unhide H3)))
        clear H3
        have H3 := H3'
        clear H3'
        have F4' := (hide ((unhide F4).keep (bb)))
        clear F4
        have F4 := F4'
        clear F4'
        have H5' := (hide (((bb).block _ (heap_lt (unhide H5))).trans (unhide H5)))
        clear H5
        have H5 := H5'
        clear H5'
        have F6' := (hide ((unhide F6).keep (bb)))
        clear F6
        have F6 := F6'
        clear F6'
        have H11' := (hide (((bb).block _ (heap_lt (unhide H11))).trans (unhide H11)))
        clear H11
        have H11 := H11'
        clear H11'
        have F12' := (hide ((unhide F12).keep (bb)))
        clear F12
        have F12 := F12'
        clear F12'
        have H15' := (hide (((bb).block _ (heap_lt (unhide H15))).trans (unhide H15)))
        clear H15
        have H15 := H15'
        clear H15'
        have F16' := (hide ((unhide F16).keep (bb)))
        clear F16
        have F16 := F16'
        clear F16'
        have H17' := (hide (((bb).block _ (heap_lt (unhide H17))).trans (unhide H17)))
        clear H17
        have H17 := H17'
        clear H17'
        have F18' := (hide ((unhide F18).keep (bb)))
        clear F18
        have F18 := F18'
        clear F18'
        have H33' := (hide (((bb).block _ (heap_lt (unhide H33))).trans (unhide H33)))
        clear H33
        have H33 := H33'
        clear H33'
        have F34 := hide bn.toIn
        clear bn
        clear bb R
        have R := R2
        clear R2
        refine wpAnyH_ready (rs := [35]) (by kernel_rfl) (by simp) ?_
        refine AllReadyH.cons (o := { dst := some 150, op := Op.buildSlice 22 2 #[(0, Operand.tmp 145), (1, Operand.tmp 149)], type := 22, pos := "law.go:63", after := #[{ on := 30, ground := Ground.data }, { on := 34, ground := Ground.data }, { on := 22, ground := Ground.guard }], guard := some (22, true) }) rfl (fun K hK => ?_) AllReadyH.nil
        go_simp
        clear hHeld
        refine hK.out _ _ (KS _ ((unhide R).alloc (unhide R).size _)) (fun hHeld => ?_)
        clear hK K
        have R2 := hide ((unhide R).alloc (unhide R).size (.cells #[.int .i64 va.kind, .string va.attr, .slice va.qi va.ni va.ci, .slice va.qw va.nw va.cw, .int .i64 va.lo, .int .i64 va.hi, .int .i64 va.op, .slice va.qk va.nk va.ck, .int .i64 v34.kind, .string v34.attr, .slice v34.qi v34.ni v34.ci, .slice v34.qw v34.nw v34.cw, .int .i64 v34.lo, .int .i64 v34.hi, .int .i64 v34.op, .slice v34.qk v34.nk v34.ck] 31))
        have H35 := hide (box_nw W (.cells #[.int .i64 va.kind, .string va.attr, .slice va.qi va.ni va.ci, .slice va.qw va.nw va.cw, .int .i64 va.lo, .int .i64 va.hi, .int .i64 va.op, .slice va.qk va.nk va.ck, .int .i64 v34.kind, .string v34.attr, .slice v34.qi v34.ni v34.ci, .slice v34.qw v34.nw v34.cw, .int .i64 v34.lo, .int .i64 v34.hi, .int .i64 v34.op, .slice v34.qk v34.nk v34.ck] 31))
        have H3' := (hide (((((Below.refl W.heap.size W).alloc (Nat.le_refl _) (.cells #[.int .i64 va.kind, .string va.attr, .slice va.qi va.ni va.ci, .slice va.qw va.nw va.cw, .int .i64 va.lo, .int .i64 va.hi, .int .i64 va.op, .slice va.qk va.nk va.ck, .int .i64 v34.kind, .string v34.attr, .slice v34.qi v34.ni v34.ci, .slice v34.qw v34.nw v34.cw, .int .i64 v34.lo, .int .i64 v34.hi, .int .i64 v34.op, .slice v34.qk v34.nk v34.ck] 31))).block _ (heap_lt (unhide H3))).trans (unhide H3)))
        clear H3
        have H3 := H3'
        clear H3'
        have F4' := (hide ((unhide F4).keep (((Below.refl W.heap.size W).alloc (Nat.le_refl _) (.cells #[.int .i64 va.kind, .string va.attr, .slice va.qi va.ni va.ci, .slice va.qw va.nw va.cw, .int .i64 va.lo, .int .i64 va.hi, .int .i64 va.op, .slice va.qk va.nk va.ck, .int .i64 v34.kind, .string v34.attr, .slice v34.qi v34.ni v34.ci, .slice v34.qw v34.nw v34.cw, .int .i64 v34.lo, .int .i64 v34.hi, .int .i64 v34.op, .slice v34.qk v34.nk v34.ck] 31)))))
        clear F4
        have F4 := F4'
        clear F4'
        have H5' := (hide (((((Below.refl W.heap.size W).alloc (Nat.le_refl _) (.cells #[.int .i64 va.kind, .string va.attr, .slice va.qi va.ni va.ci, .slice va.qw va.nw va.cw, .int .i64 va.lo, .int .i64 va.hi, .int .i64 va.op, .slice va.qk va.nk va.ck, .int .i64 v34.kind, .string v34.attr, .slice v34.qi v34.ni v34.ci, .slice v34.qw v34.nw v34.cw, .int .i64 v34.lo, .int .i64 v34.hi, .int .i64 v34.op, .slice v34.qk v34.nk v34.ck] 31))).block _ (heap_lt (unhide H5))).trans (unhide H5)))
        clear H5
        have H5 := H5'
        clear H5'
        have F6' := (hide ((unhide F6).keep (((Below.refl W.heap.size W).alloc (Nat.le_refl _) (.cells #[.int .i64 va.kind, .string va.attr, .slice va.qi va.ni va.ci, .slice va.qw va.nw va.cw, .int .i64 va.lo, .int .i64 va.hi, .int .i64 va.op, .slice va.qk va.nk va.ck, .int .i64 v34.kind, .string v34.attr, .slice v34.qi v34.ni v34.ci, .slice v34.qw v34.nw v34.cw, .int .i64 v34.lo, .int .i64 v34.hi, .int .i64 v34.op, .slice v34.qk v34.nk v34.ck] 31)))))
        clear F6
        have F6 := F6'
        clear F6'
        have H11' := (hide (((((Below.refl W.heap.size W).alloc (Nat.le_refl _) (.cells #[.int .i64 va.kind, .string va.attr, .slice va.qi va.ni va.ci, .slice va.qw va.nw va.cw, .int .i64 va.lo, .int .i64 va.hi, .int .i64 va.op, .slice va.qk va.nk va.ck, .int .i64 v34.kind, .string v34.attr, .slice v34.qi v34.ni v34.ci, .slice v34.qw v34.nw v34.cw, .int .i64 v34.lo, .int .i64 v34.hi, .int .i64 v34.op, .slice v34.qk v34.nk v34.ck] 31))).block _ (heap_lt (unhide H11))).trans (unhide H11)))
        clear H11
        have H11 := H11'
        clear H11'
        have F12' := (hide ((unhide F12).keep (((Below.refl W.heap.size W).alloc (Nat.le_refl _) (.cells #[.int .i64 va.kind, .string va.attr, .slice va.qi va.ni va.ci, .slice va.qw va.nw va.cw, .int .i64 va.lo, .int .i64 va.hi, .int .i64 va.op, .slice va.qk va.nk va.ck, .int .i64 v34.kind, .string v34.attr, .slice v34.qi v34.ni v34.ci, .slice v34.qw v34.nw v34.cw, .int .i64 v34.lo, .int .i64 v34.hi, .int .i64 v34.op, .slice v34.qk v34.nk v34.ck] 31)))))
        clear F12
        have F12 := F12'
        clear F12'
        have H15' := (hide (((((Below.refl W.heap.size W).alloc (Nat.le_refl _) (.cells #[.int .i64 va.kind, .string va.attr, .slice va.qi va.ni va.ci, .slice va.qw va.nw va.cw, .int .i64 va.lo, .int .i64 va.hi, .int .i64 va.op, .slice va.qk va.nk va.ck, .int .i64 v34.kind, .string v34.attr, .slice v34.qi v34.ni v34.ci, .slice v34.qw v34.nw v34.cw, .int .i64 v34.lo, .int .i64 v34.hi, .int .i64 v34.op, .slice v34.qk v34.nk v34.ck] 31))).block _ (heap_lt (unhide H15))).trans (unhide H15)))
        clear H15
        have H15 := H15'
        clear H15'
        have F16' := (hide ((unhide F16).keep (((Below.refl W.heap.size W).alloc (Nat.le_refl _) (.cells #[.int .i64 va.kind, .string va.attr, .slice va.qi va.ni va.ci, .slice va.qw va.nw va.cw, .int .i64 va.lo, .int .i64 va.hi, .int .i64 va.op, .slice va.qk va.nk va.ck, .int .i64 v34.kind, .string v34.attr, .slice v34.qi v34.ni v34.ci, .slice v34.qw v34.nw v34.cw, .int .i64 v34.lo, .int .i64 v34.hi, .int .i64 v34.op, .slice v34.qk v34.nk v34.ck] 31)))))
        clear F16
        have F16 := F16'
        clear F16'
        have H17' := (hide (((((Below.refl W.heap.size W).alloc (Nat.le_refl _) (.cells #[.int .i64 va.kind, .string va.attr, .slice va.qi va.ni va.ci, .slice va.qw va.nw va.cw, .int .i64 va.lo, .int .i64 va.hi, .int .i64 va.op, .slice va.qk va.nk va.ck, .int .i64 v34.kind, .string v34.attr, .slice v34.qi v34.ni v34.ci, .slice v34.qw v34.nw v34.cw, .int .i64 v34.lo, .int .i64 v34.hi, .int .i64 v34.op, .slice v34.qk v34.nk v34.ck] 31))).block _ (heap_lt (unhide H17))).trans (unhide H17)))
        clear H17
        have H17 := H17'
        clear H17'
        have F18' := (hide ((unhide F18).keep (((Below.refl W.heap.size W).alloc (Nat.le_refl _) (.cells #[.int .i64 va.kind, .string va.attr, .slice va.qi va.ni va.ci, .slice va.qw va.nw va.cw, .int .i64 va.lo, .int .i64 va.hi, .int .i64 va.op, .slice va.qk va.nk va.ck, .int .i64 v34.kind, .string v34.attr, .slice v34.qi v34.ni v34.ci, .slice v34.qw v34.nw v34.cw, .int .i64 v34.lo, .int .i64 v34.hi, .int .i64 v34.op, .slice v34.qk v34.nk v34.ck] 31)))))
        clear F18
        have F18 := F18'
        clear F18'
        have H33' := (hide (((((Below.refl W.heap.size W).alloc (Nat.le_refl _) (.cells #[.int .i64 va.kind, .string va.attr, .slice va.qi va.ni va.ci, .slice va.qw va.nw va.cw, .int .i64 va.lo, .int .i64 va.hi, .int .i64 va.op, .slice va.qk va.nk va.ck, .int .i64 v34.kind, .string v34.attr, .slice v34.qi v34.ni v34.ci, .slice v34.qw v34.nw v34.cw, .int .i64 v34.lo, .int .i64 v34.hi, .int .i64 v34.op, .slice v34.qk v34.nk v34.ck] 31))).block _ (heap_lt (unhide H33))).trans (unhide H33)))
        clear H33
        have H33 := H33'
        clear H33'
        have F34' := (hide ((unhide F34).keep (((Below.refl W.heap.size W).alloc (Nat.le_refl _) (.cells #[.int .i64 va.kind, .string va.attr, .slice va.qi va.ni va.ci, .slice va.qw va.nw va.cw, .int .i64 va.lo, .int .i64 va.hi, .int .i64 va.op, .slice va.qk va.nk va.ck, .int .i64 v34.kind, .string v34.attr, .slice v34.qi v34.ni v34.ci, .slice v34.qw v34.nw v34.cw, .int .i64 v34.lo, .int .i64 v34.hi, .int .i64 v34.op, .slice v34.qk v34.nk v34.ck] 31)))))
        clear F34
        have F34 := F34'
        clear F34'
        obtain ⟨M35, eM35⟩ : ∃ m, W.heap.size = m := ⟨_, rfl⟩
        obtain ⟨W, eW⟩ : ∃ m, World.alloc W (.cells #[.int .i64 va.kind, .string va.attr, .slice va.qi va.ni va.ci, .slice va.qw va.nw va.cw, .int .i64 va.lo, .int .i64 va.hi, .int .i64 va.op, .slice va.qk va.nk va.ck, .int .i64 v34.kind, .string v34.attr, .slice v34.qi v34.ni v34.ci, .slice v34.qw v34.nw v34.cw, .int .i64 v34.lo, .int .i64 v34.hi, .int .i64 v34.op, .slice v34.qk v34.nk v34.ck] 31) = m := ⟨_, rfl⟩
        rw [eM35] at H35
        rw [eW] at R2 H35 hHeld H3 F4 H5 F6 H11 F12 H15 F16 H17 F18 H33 F34
        rw [eW]
        simp only [eM35]
        clear R eW eM35
        have R := R2
        clear R2
        refine wpAnyH_ready (rs := [36]) (by kernel_rfl) (by simp) ?_
        refine AllReadyH.cons (o := { dst := some 151, op := Op.call { callee := Callee.value (Operand.func 19), args := #[Operand.tmp 150], argTypes := #[22] }, type := 31, pos := "law.go:63", after := #[{ on := 35, ground := Ground.data }, { on := 34, ground := Ground.chain }, { on := 22, ground := Ground.guard }], guard := some (22, true) }) rfl (fun K hK => ?_) AllReadyH.nil
        go_simp
        refine (cAnd a (joinT 4 [b, c]) va v34 M35 _ (unhide H35) ((unhide Na).keep (unhide R)) (unhide F34) (by have := unhide HW; have := w2 4 b c; omega)).mono ?_
        rintro e W ⟨⟨v36, rfl, bn⟩, bb⟩
        simp only [Nv.val]
        clear hHeld
        refine hK.out _ _ (KS _ (below_sub (unhide R) bb)) (fun hHeld => ?_)
        clear hK K
        have R2 := hide (below_sub (unhide R) bb)
        have H3' := (hide (((bb).block _ (heap_lt (unhide H3))).trans (unhide H3)))
        clear H3
        have H3 := H3'
        clear H3'
        have F4' := (hide ((unhide F4).keep (bb)))
        clear F4
        have F4 := F4'
        clear F4'
        have H5' := (hide (((bb).block _ (heap_lt (unhide H5))).trans (unhide H5)))
        clear H5
        have H5 := H5'
        clear H5'
        have F6' := (hide ((unhide F6).keep (bb)))
        clear F6
        have F6 := F6'
        clear F6'
        have H11' := (hide (((bb).block _ (heap_lt (unhide H11))).trans (unhide H11)))
        clear H11
        have H11 := H11'
        clear H11'
        have F12' := (hide ((unhide F12).keep (bb)))
        clear F12
        have F12 := F12'
        clear F12'
        have H15' := (hide (((bb).block _ (heap_lt (unhide H15))).trans (unhide H15)))
        clear H15
        have H15 := H15'
        clear H15'
        have F16' := (hide ((unhide F16).keep (bb)))
        clear F16
        have F16 := F16'
        clear F16'
        have H17' := (hide (((bb).block _ (heap_lt (unhide H17))).trans (unhide H17)))
        clear H17
        have H17 := H17'
        clear H17'
        have F18' := (hide ((unhide F18).keep (bb)))
        clear F18
        have F18 := F18'
        clear F18'
        have H33' := (hide (((bb).block _ (heap_lt (unhide H33))).trans (unhide H33)))
        clear H33
        have H33 := H33'
        clear H33'
        have F34' := (hide ((unhide F34).keep (bb)))
        clear F34
        have F34 := F34'
        clear F34'
        have H35' := (hide (((bb).block _ (heap_lt (unhide H35))).trans (unhide H35)))
        clear H35
        have H35 := H35'
        clear H35'
        have F36 := hide bn.toIn
        clear bn
        clear bb R
        have R := R2
        clear R2
        refine wpAnyH_ready (rs := [38]) (by kernel_rfl) (by simp) ?_
        refine AllReadyH.cons (o := { dst := some 153, op := Op.call { callee := Callee.value (Operand.func 8), args := #[Operand.tmp 151, Operand.tmp 152], argTypes := #[31, 23] }, type := 4, pos := "law.go:63", after := #[{ on := 36, ground := Ground.data }, { on := 37, ground := Ground.data }, { on := 36, ground := Ground.chain }, { on := 22, ground := Ground.guard }], guard := some (22, true) }) rfl (fun K hK => ?_) AllReadyH.nil
        go_simp
        refine (cEv (joinT 3 [a, (joinT 4 [b, c])]) v36 qe ce ev _ true (unhide F36) ((unhide HE).below (unhide R)) (ck2 3 (Or.inl rfl) a (joinT 4 [b, c]) (unhide HCa) (ck2 4 (Or.inr rfl) b c (unhide HCb) (unhide HCc))) ((tA2 ev a (joinT 4 [b, c])).trans (congr (congrArg and (unhide HXa)) ((tO2 ev b c).trans (congr (congrArg or (unhide HXb)) (unhide HXc))))) (by have := unhide HW; have := w2 3 a (joinT 4 [b, c]); have := w2 4 b c; omega) (unhide HL)).mono ?_
        rintro e W ⟨rfl, bb⟩
        clear hHeld
        refine hK.out _ _ (KS _ (below_sub (unhide R) bb)) (fun hHeld => ?_)
        clear hK K
        have R2 := hide (below_sub (unhide R) bb)
        have H3' := (hide (((bb).block _ (heap_lt (unhide H3))).trans (unhide H3)))
        clear H3
        have H3 := H3'
        clear H3'
        have F4' := (hide ((unhide F4).keep (bb)))
        clear F4
        have F4 := F4'
        clear F4'
        have H5' := (hide (((bb).block _ (heap_lt (unhide H5))).trans (unhide H5)))
        clear H5
        have H5 := H5'
        clear H5'
        have F6' := (hide ((unhide F6).keep (bb)))
        clear F6
        have F6 := F6'
        clear F6'
        have H11' := (hide (((bb).block _ (heap_lt (unhide H11))).trans (unhide H11)))
        clear H11
        have H11 := H11'
        clear H11'
        have F12' := (hide ((unhide F12).keep (bb)))
        clear F12
        have F12 := F12'
        clear F12'
        have H15' := (hide (((bb).block _ (heap_lt (unhide H15))).trans (unhide H15)))
        clear H15
        have H15 := H15'
        clear H15'
        have F16' := (hide ((unhide F16).keep (bb)))
        clear F16
        have F16 := F16'
        clear F16'
        have H17' := (hide (((bb).block _ (heap_lt (unhide H17))).trans (unhide H17)))
        clear H17
        have H17 := H17'
        clear H17'
        have F18' := (hide ((unhide F18).keep (bb)))
        clear F18
        have F18 := F18'
        clear F18'
        have H33' := (hide (((bb).block _ (heap_lt (unhide H33))).trans (unhide H33)))
        clear H33
        have H33 := H33'
        clear H33'
        have F34' := (hide ((unhide F34).keep (bb)))
        clear F34
        have F34 := F34'
        clear F34'
        have H35' := (hide (((bb).block _ (heap_lt (unhide H35))).trans (unhide H35)))
        clear H35
        have H35 := H35'
        clear H35'
        have F36' := (hide ((unhide F36).keep (bb)))
        clear F36
        have F36 := F36'
        clear F36'
        clear bb R
        have R := R2
        clear R2
        refine wpAnyH_take (i := 39) (oi := { dst := some 154, op := Op.binOp BinOp.eql 4 (Operand.tmp 144) (Operand.tmp 153) 4, type := 4, pos := "law.go:63", after := #[{ on := 29, ground := Ground.data }, { on := 38, ground := Ground.data }, { on := 22, ground := Ground.guard }], guard := some (22, true) }) (v := ?_) rfl (by kernel_rfl) (by kernel_rfl) (by kernel_rfl) (fun c a w => (unhide HP) c a _ _ w) (Or.inl ⟨by rfl, ?_⟩) (by assumption) ?_
        rotate_left
        · intro wq hSw
          go_simp
          with_reducible rfl
        simp only [Act.put, List.setIfInBounds_toArray, List.set_cons_zero, List.set_cons_succ]
        refine wpAnyH_take (i := 40) (oi := { dst := some 155, op := Op.pick (Operand.tmp 137) (Operand.tmp 154) (Operand.const (Value.bool false)), type := 4, pos := "law.go:63", after := #[{ on := 22, ground := Ground.data }, { on := 39, ground := Ground.data }], guard := none }) (v := ?_) rfl (by kernel_rfl) (by kernel_rfl) (by kernel_rfl) (fun c a w => (unhide HP) c a _ _ w) (Or.inl ⟨by rfl, ?_⟩) (by assumption) ?_
        rotate_left
        · intro wq hSw
          go_simp
          with_reducible rfl
        simp only [Act.put, List.setIfInBounds_toArray, List.set_cons_zero, List.set_cons_succ]
        refine wpAnyH_take (i := 41) (oi := { dst := some 8, op := Op.assign (Operand.tmp 155), type := 4, pos := "law.go:63", after := #[{ on := 40, ground := Ground.data }, { on := 38, ground := Ground.chain }, { on := 0, ground := Ground.phase }, { on := 1, ground := Ground.phase }, { on := 2, ground := Ground.phase }, { on := 3, ground := Ground.phase }, { on := 4, ground := Ground.phase }, { on := 5, ground := Ground.phase }, { on := 6, ground := Ground.phase }, { on := 7, ground := Ground.phase }, { on := 8, ground := Ground.phase }, { on := 9, ground := Ground.phase }, { on := 10, ground := Ground.phase }, { on := 11, ground := Ground.phase }, { on := 12, ground := Ground.phase }, { on := 13, ground := Ground.phase }, { on := 14, ground := Ground.phase }, { on := 15, ground := Ground.phase }, { on := 16, ground := Ground.phase }, { on := 17, ground := Ground.phase }, { on := 18, ground := Ground.phase }, { on := 19, ground := Ground.phase }, { on := 20, ground := Ground.phase }, { on := 21, ground := Ground.phase }, { on := 22, ground := Ground.phase }, { on := 23, ground := Ground.phase }, { on := 24, ground := Ground.phase }, { on := 25, ground := Ground.phase }, { on := 26, ground := Ground.phase }, { on := 27, ground := Ground.phase }, { on := 28, ground := Ground.phase }, { on := 29, ground := Ground.phase }, { on := 30, ground := Ground.phase }, { on := 31, ground := Ground.phase }, { on := 32, ground := Ground.phase }, { on := 33, ground := Ground.phase }, { on := 34, ground := Ground.phase }, { on := 35, ground := Ground.phase }, { on := 36, ground := Ground.phase }, { on := 37, ground := Ground.phase }, { on := 38, ground := Ground.phase }, { on := 39, ground := Ground.phase }, { on := 40, ground := Ground.phase }], guard := none }) (v := ?_) rfl (by kernel_rfl) (by kernel_rfl) (by kernel_rfl) (fun c a w => (unhide HP) c a _ _ w) (Or.inl ⟨by rfl, ?_⟩) (by assumption) ?_
        rotate_left
        · intro wq hSw
          go_simp
          with_reducible rfl
        simp only [Act.put, List.setIfInBounds_toArray, List.set_cons_zero, List.set_cons_succ]
        refine wpAnyH_done (by kernel_rfl) ?_ _
        exact (unhide HQ) W _ _ _ _ _ _ _ _ _ _ _ _ _ _ _ _ _ _ _ _ _ _ _ _ _ _ _ _ _ _ _ _ _ _ _ _ _ _ _ _ _ (unhide R)
    )
  have st1 : Hid (∀ (W : World) (M3 : Nat) (v4 : Nv) (M5 : Nat) (v6 : Nv) (M11 : Nat) (v12 : Nv) (M15 : Nat) (v16 : Nv) (M17 : Nat) (v18 : Nv), Hid (Below U.heap.size U W) → Hid (W.heap[M3]? = some (.cells #[.int .i64 vb.kind, .string vb.attr, .slice vb.qi vb.ni vb.ci, .slice vb.qw vb.nw vb.cw, .int .i64 vb.lo, .int .i64 vb.hi, .int .i64 vb.op, .slice vb.qk vb.nk vb.ck, .int .i64 vc.kind, .string vc.attr, .slice vc.qi vc.ni vc.ci, .slice vc.qw vc.nw vc.cw, .int .i64 vc.lo, .int .i64 vc.hi, .int .i64 vc.op, .slice vc.qk vc.nk vc.ck] 31 (0, 0))) → Hid (NdIn W v4 (joinT 4 [b, c])) → Hid (W.heap[M5]? = some (.cells #[.int .i64 va.kind, .string va.attr, .slice va.qi va.ni va.ci, .slice va.qw va.nw va.cw, .int .i64 va.lo, .int .i64 va.hi, .int .i64 va.op, .slice va.qk va.nk va.ck, .int .i64 v4.kind, .string v4.attr, .slice v4.qi v4.ni v4.ci, .slice v4.qw v4.nw v4.cw, .int .i64 v4.lo, .int .i64 v4.hi, .int .i64 v4.op, .slice v4.qk v4.nk v4.ck] 31 (0, 0))) → Hid (NdIn W v6 (joinT 3 [a, (joinT 4 [b, c])])) → Hid (W.heap[M11]? = some (.cells #[.int .i64 va.kind, .string va.attr, .slice va.qi va.ni va.ci, .slice va.qw va.nw va.cw, .int .i64 va.lo, .int .i64 va.hi, .int .i64 va.op, .slice va.qk va.nk va.ck, .int .i64 vb.kind, .string vb.attr, .slice vb.qi vb.ni vb.ci, .slice vb.qw vb.nw vb.cw, .int .i64 vb.lo, .int .i64 vb.hi, .int .i64 vb.op, .slice vb.qk vb.nk vb.ck] 31 (0, 0))) → Hid (NdIn W v12 (joinT 3 [a, b])) → Hid (W.heap[M15]? = some (.cells #[.int .i64 va.kind, .string va.attr, .slice va.qi va.ni va.ci, .slice va.qw va.nw va.cw, .int .i64 va.lo, .int .i64 va.hi, .int .i64 va.op, .slice va.qk va.nk va.ck, .int .i64 vc.kind, .string vc.attr, .slice vc.qi vc.ni vc.ci, .slice vc.qw vc.nw vc.cw, .int .i64 vc.lo, .int .i64 vc.hi, .int .i64 vc.op, .slice vc.qk vc.nk vc.ck] 31 (0, 0))) → Hid (NdIn W v16 (joinT 3 [a, c])) → Hid (W.heap[M17]? = some (.cells #[.int .i64 v12.kind, .string v12.attr, .slice v12.qi v12.ni v12.ci, .slice v12.qw v12.nw v12.cw, .int .i64 v12.lo, .int .i64 v12.hi, .int .i64 v12.op, .slice v12.qk v12.nk v12.ck, .int .i64 v16.kind, .string v16.attr, .slice v16.qi v16.ni v16.ci, .slice v16.qw v16.nw v16.cw, .int .i64 v16.lo, .int .i64 v16.hi, .int .i64 v16.op, .slice v16.qk v16.nk v16.ck] 31 (0, 0))) → Hid (NdIn W v18 (joinT 4 [(joinT 3 [a, b]), (joinT 3 [a, c])])) → F 22 #[true, true, true, true, true, true, true, true, true, true, true, true, true, true, true, true, true, true, true, true, false, false, false, false, false, false, false, false, false, false, false, false, false, false, false, false, false, false, false, false, false, false] (Act.mk #[s0, s1, s2, .slice qe ev.length ce, .pointer (some ⟨A, 0, none⟩), .pointer (some ⟨B, 0, none⟩), .pointer (some ⟨C, 0, none⟩), s7, s8, .bool x, .bool y, .bool z, .bool (x && y), .bool (x || y), s14, s15, s16, s17, s18, s19, s20, s21, s22, s23, s24, s25, s26, s27, s28, s29, s30, s31, s32, s33, s34, s35, s36, s37, s38, s39, s40, s41, s42, s43, s44, s45, s46, s47, s48, s49, s50, s51, s52, s53, s54, s55, s56, s57, s58, s59, s60, s61, s62, s63, s64, s65, s66, s67, s68, s69, s70, s71, s72, s73, s74, s75, s76, s77, s78, s79, s80, s81, s82, s83, s84, s85, s86, s87, s88, s89, s90, s91, s92, s93, s94, s95, s96, s97, s98, s99, s100, s101, s102, s103, s104, s105, s106, s107, s108, s109, s110, s111, s112, s113, s114, .agg #[.int .i64 va.kind, .string va.attr, .slice va.qi va.ni va.ci, .slice va.qw va.nw va.cw, .int .i64 va.lo, .int .i64 va.hi, .int .i64 va.op, .slice va.qk va.nk va.ck], .agg #[.int .i64 vb.kind, .string vb.attr, .slice vb.qi vb.ni vb.ci, .slice vb.qw vb.nw vb.cw, .int .i64 vb.lo, .int .i64 vb.hi, .int .i64 vb.op, .slice vb.qk vb.nk vb.ck], .agg #[.int .i64 vc.kind, .string vc.attr, .slice vc.qi vc.ni vc.ci, .slice vc.qw vc.nw vc.cw, .int .i64 vc.lo, .int .i64 vc.hi, .int .i64 vc.op, .slice vc.qk vc.nk vc.ck], .slice (some ⟨M3, 0, none⟩) 2 2, .agg #[.int .i64 v4.kind, .string v4.attr, .slice v4.qi v4.ni v4.ci, .slice v4.qw v4.nw v4.cw, .int .i64 v4.lo, .int .i64 v4.hi, .int .i64 v4.op, .slice v4.qk v4.nk v4.ck], .slice (some ⟨M5, 0, none⟩) 2 2, .agg #[.int .i64 v6.kind, .string v6.attr, .slice v6.qi v6.ni v6.ci, .slice v6.qw v6.nw v6.cw, .int .i64 v6.lo, .int .i64 v6.hi, .int .i64 v6.op, .slice v6.qk v6.nk v6.ck], .slice qe ev.length ce, .bool (x && (y || z)), .agg #[.int .i64 va.kind, .string va.attr, .slice va.qi va.ni va.ci, .slice va.qw va.nw va.cw, .int .i64 va.lo, .int .i64 va.hi, .int .i64 va.op, .slice va.qk va.nk va.ck], .agg #[.int .i64 vb.kind, .string vb.attr, .slice vb.qi vb.ni vb.ci, .slice vb.qw vb.nw vb.cw, .int .i64 vb.lo, .int .i64 vb.hi, .int .i64 vb.op, .slice vb.qk vb.nk vb.ck], .slice (some ⟨M11, 0, none⟩) 2 2, .agg #[.int .i64 v12.kind, .string v12.attr, .slice v12.qi v12.ni v12.ci, .slice v12.qw v12.nw v12.cw, .int .i64 v12.lo, .int .i64 v12.hi, .int .i64 v12.op, .slice v12.qk v12.nk v12.ck], .agg #[.int .i64 va.kind, .string va.attr, .slice va.qi va.ni va.ci, .slice va.qw va.nw va.cw, .int .i64 va.lo, .int .i64 va.hi, .int .i64 va.op, .slice va.qk va.nk va.ck], .agg #[.int .i64 vc.kind, .string vc.attr, .slice vc.qi vc.ni vc.ci, .slice vc.qw vc.nw vc.cw, .int .i64 vc.lo, .int .i64 vc.hi, .int .i64 vc.op, .slice vc.qk vc.nk vc.ck], .slice (some ⟨M15, 0, none⟩) 2 2, .agg #[.int .i64 v16.kind, .string v16.attr, .slice v16.qi v16.ni v16.ci, .slice v16.qw v16.nw v16.cw, .int .i64 v16.lo, .int .i64 v16.hi, .int .i64 v16.op, .slice v16.qk v16.nk v16.ck], .slice (some ⟨M17, 0, none⟩) 2 2, .agg #[.int .i64 v18.kind, .string v18.attr, .slice v18.qi v18.ni v18.ci, .slice v18.qw v18.nw v18.cw, .int .i64 v18.lo, .int .i64 v18.hi, .int .i64 v18.op, .slice v18.qk v18.nk v18.ck], .slice qe ev.length ce, s135, s136, s137, s138, s139, s140, s141, s142, s143, s144, s145, s146, s147, s148, s149, s150, s151, s152, s153, s154, s155] d) W) := hide (by
    intro W M3 v4 M5 v6 M11 v12 M15 v16 M17 v18 R H3 F4 H5 F6 H11 F12 H15 F16 H17 F18
    refine Eq.mpr (hF _ _ _ _) ?_
    have hHeld := KS W (unhide R)
    refine wpAnyH_ready (rs := [20]) (by kernel_rfl) (by simp) ?_
    refine AllReadyH.cons (o := { dst := some 135, op := Op.call { callee := Callee.value (Operand.func 8), args := #[Operand.tmp 133, Operand.tmp 134], argTypes := #[31, 23] }, type := 4, pos := "law.go:63", after := #[{ on := 18, ground := Ground.data }, { on := 19, ground := Ground.data }, { on := 18, ground := Ground.chain }], guard := none }) rfl (fun K hK => ?_) ?_
    · go_simp
      refine (cEv (joinT 4 [(joinT 3 [a, b]), (joinT 3 [a, c])]) v18 qe ce ev _ ((x && y) || (x && z)) (unhide F18) ((unhide HE).below (unhide R)) (ck2 4 (Or.inr rfl) (joinT 3 [a, b]) (joinT 3 [a, c]) (ck2 3 (Or.inl rfl) a b (unhide HCa) (unhide HCb)) (ck2 3 (Or.inl rfl) a c (unhide HCa) (unhide HCc))) ((tO2 ev (joinT 3 [a, b]) (joinT 3 [a, c])).trans (congr (congrArg or ((tA2 ev a b).trans (congr (congrArg and (unhide HXa)) (unhide HXb)))) ((tA2 ev a c).trans (congr (congrArg and (unhide HXa)) (unhide HXc))))) (by have := unhide HW; have := w2 4 (joinT 3 [a, b]) (joinT 3 [a, c]); have := w2 3 a b; have := w2 3 a c; omega) (unhide HL)).mono ?_
      rintro e W1 ⟨rfl, bb⟩
      refine hK.out _ _ (KS _ (below_sub (unhide R) bb)) (fun hHeld => ?_)
      clear hK K
      refine Eq.mp (hF _ _ _ _) ?_
      exact dp_to (unhide st0 W1 M3 v4 M5 v6 M11 v12 M15 v16 M17 v18 (hide (below_sub (unhide R) bb)) (hide (((bb).block _ (heap_lt (unhide H3))).trans (unhide H3))) (hide ((unhide F4).keep (bb))) (hide (((bb).block _ (heap_lt (unhide H5))).trans (unhide H5))) (hide ((unhide F6).keep (bb))) (hide (((bb).block _ (heap_lt (unhide H11))).trans (unhide H11))) (hide ((unhide F12).keep (bb))) (hide (((bb).block _ (heap_lt (unhide H15))).trans (unhide H15))) (hide ((unhide F16).keep (bb))) (hide (((bb).block _ (heap_lt (unhide H17))).trans (unhide H17))) (hide ((unhide F18).keep (bb)))) (by kernel_rfl) rfl
    exact AllReadyH.nil
    )
  have st2 : Hid (∀ (W : World) (M3 : Nat) (v4 : Nv) (M5 : Nat) (v6 : Nv) (M11 : Nat) (v12 : Nv) (M15 : Nat) (v16 : Nv) (M17 : Nat), Hid (Below U.heap.size U W) → Hid (W.heap[M3]? = some (.cells #[.int .i64 vb.kind, .string vb.attr, .slice vb.qi vb.ni vb.ci, .slice vb.qw vb.nw vb.cw, .int .i64 vb.lo, .int .i64 vb.hi, .int .i64 vb.op, .slice vb.qk vb.nk vb.ck, .int .i64 vc.kind, .string vc.attr, .slice vc.qi vc.ni vc.ci, .slice vc.qw vc.nw vc.cw, .int .i64 vc.lo, .int .i64 vc.hi, .int .i64 vc.op, .slice vc.qk vc.nk vc.ck] 31 (0, 0))) → Hid (NdIn W v4 (joinT 4 [b, c])) → Hid (W.heap[M5]? = some (.cells #[.int .i64 va.kind, .string va.attr, .slice va.qi va.ni va.ci, .slice va.qw va.nw va.cw, .int .i64 va.lo, .int .i64 va.hi, .int .i64 va.op, .slice va.qk va.nk va.ck, .int .i64 v4.kind, .string v4.attr, .slice v4.qi v4.ni v4.ci, .slice v4.qw v4.nw v4.cw, .int .i64 v4.lo, .int .i64 v4.hi, .int .i64 v4.op, .slice v4.qk v4.nk v4.ck] 31 (0, 0))) → Hid (NdIn W v6 (joinT 3 [a, (joinT 4 [b, c])])) → Hid (W.heap[M11]? = some (.cells #[.int .i64 va.kind, .string va.attr, .slice va.qi va.ni va.ci, .slice va.qw va.nw va.cw, .int .i64 va.lo, .int .i64 va.hi, .int .i64 va.op, .slice va.qk va.nk va.ck, .int .i64 vb.kind, .string vb.attr, .slice vb.qi vb.ni vb.ci, .slice vb.qw vb.nw vb.cw, .int .i64 vb.lo, .int .i64 vb.hi, .int .i64 vb.op, .slice vb.qk vb.nk vb.ck] 31 (0, 0))) → Hid (NdIn W v12 (joinT 3 [a, b])) → Hid (W.heap[M15]? = some (.cells #[.int .i64 va.kind, .string va.attr, .slice va.qi va.ni va.ci, .slice va.qw va.nw va.cw, .int .i64 va.lo, .int .i64 va.hi, .int .i64 va.op, .slice va.qk va.nk va.ck, .int .i64 vc.kind, .string vc.attr, .slice vc.qi vc.ni vc.ci, .slice vc.qw vc.nw vc.cw, .int .i64 vc.lo, .int .i64 vc.hi, .int .i64 vc.op, .slice vc.qk vc.nk vc.ck] 31 (0, 0))) → Hid (NdIn W v16 (joinT 3 [a, c])) → Hid (W.heap[M17]? = some (.cells #[.int .i64 v12.kind, .string v12.attr, .slice v12.qi v12.ni v12.ci, .slice v12.qw v12.nw v12.cw, .int .i64 v12.lo, .int .i64 v12.hi, .int .i64 v12.op, .slice v12.qk v12.nk v12.ck, .int .i64 v16.kind, .string v16.attr, .slice v16.qi v16.ni v16.ci, .slice v16.qw v16.nw v16.cw, .int .i64 v16.lo, .int .i64 v16.hi, .int .i64 v16.op, .slice v16.qk v16.nk v16.ck] 31 (0, 0))) → F 23 #[true, true, true, true, true, true, true, true, true, true, true, true, true, true, true, true, true, true, false, true, false, false, false, false, false, false, false, false, false, false, false, false, false, false, false, false, false, false, false, false, false, false] (Act.mk #[s0, s1, s2, .slice qe ev.length ce, .pointer (some ⟨A, 0, none⟩), .pointer (some ⟨B, 0, none⟩), .pointer (some ⟨C, 0, none⟩), s7, s8, .bool x, .bool y, .bool z, .bool (x && y), .bool (x || y), s14, s15, s16, s17, s18, s19, s20, s21, s22, s23, s24, s25, s26, s27, s28, s29, s30, s31, s32, s33, s34, s35, s36, s37, s38, s39, s40, s41, s42, s43, s44, s45, s46, s47, s48, s49, s50, s51, s52, s53, s54, s55, s56, s57, s58, s59, s60, s61, s62, s63, s64, s65, s66, s67, s68, s69, s70, s71, s72, s73, s74, s75, s76, s77, s78, s79, s80, s81, s82, s83, s84, s85, s86, s87, s88, s89, s90, s91, s92, s93, s94, s95, s96, s97, s98, s99, s100, s101, s102, s103, s104, s105, s106, s107, s108, s109, s110, s111, s112, s113, s114, .agg #[.int .i64 va.kind, .string va.attr, .slice va.qi va.ni va.ci, .slice va.qw va.nw va.cw, .int .i64 va.lo, .int .i64 va.hi, .int .i64 va.op, .slice va.qk va.nk va.ck], .agg #[.int .i64 vb.kind, .string vb.attr, .slice vb.qi vb.ni vb.ci, .slice vb.qw vb.nw vb.cw, .int .i64 vb.lo, .int .i64 vb.hi, .int .i64 vb.op, .slice vb.qk vb.nk vb.ck], .agg #[.int .i64 vc.kind, .string vc.attr, .slice vc.qi vc.ni vc.ci, .slice vc.qw vc.nw vc.cw, .int .i64 vc.lo, .int .i64 vc.hi, .int .i64 vc.op, .slice vc.qk vc.nk vc.ck], .slice (some ⟨M3, 0, none⟩) 2 2, .agg #[.int .i64 v4.kind, .string v4.attr, .slice v4.qi v4.ni v4.ci, .slice v4.qw v4.nw v4.cw, .int .i64 v4.lo, .int .i64 v4.hi, .int .i64 v4.op, .slice v4.qk v4.nk v4.ck], .slice (some ⟨M5, 0, none⟩) 2 2, .agg #[.int .i64 v6.kind, .string v6.attr, .slice v6.qi v6.ni v6.ci, .slice v6.qw v6.nw v6.cw, .int .i64 v6.lo, .int .i64 v6.hi, .int .i64 v6.op, .slice v6.qk v6.nk v6.ck], .slice qe ev.length ce, .bool (x && (y || z)), .agg #[.int .i64 va.kind, .string va.attr, .slice va.qi va.ni va.ci, .slice va.qw va.nw va.cw, .int .i64 va.lo, .int .i64 va.hi, .int .i64 va.op, .slice va.qk va.nk va.ck], .agg #[.int .i64 vb.kind, .string vb.attr, .slice vb.qi vb.ni vb.ci, .slice vb.qw vb.nw vb.cw, .int .i64 vb.lo, .int .i64 vb.hi, .int .i64 vb.op, .slice vb.qk vb.nk vb.ck], .slice (some ⟨M11, 0, none⟩) 2 2, .agg #[.int .i64 v12.kind, .string v12.attr, .slice v12.qi v12.ni v12.ci, .slice v12.qw v12.nw v12.cw, .int .i64 v12.lo, .int .i64 v12.hi, .int .i64 v12.op, .slice v12.qk v12.nk v12.ck], .agg #[.int .i64 va.kind, .string va.attr, .slice va.qi va.ni va.ci, .slice va.qw va.nw va.cw, .int .i64 va.lo, .int .i64 va.hi, .int .i64 va.op, .slice va.qk va.nk va.ck], .agg #[.int .i64 vc.kind, .string vc.attr, .slice vc.qi vc.ni vc.ci, .slice vc.qw vc.nw vc.cw, .int .i64 vc.lo, .int .i64 vc.hi, .int .i64 vc.op, .slice vc.qk vc.nk vc.ck], .slice (some ⟨M15, 0, none⟩) 2 2, .agg #[.int .i64 v16.kind, .string v16.attr, .slice v16.qi v16.ni v16.ci, .slice v16.qw v16.nw v16.cw, .int .i64 v16.lo, .int .i64 v16.hi, .int .i64 v16.op, .slice v16.qk v16.nk v16.ck], .slice (some ⟨M17, 0, none⟩) 2 2, s133, .slice qe ev.length ce, s135, s136, s137, s138, s139, s140, s141, s142, s143, s144, s145, s146, s147, s148, s149, s150, s151, s152, s153, s154, s155] d) W) := hide (by
    intro W M3 v4 M5 v6 M11 v12 M15 v16 M17 R H3 F4 H5 F6 H11 F12 H15 F16 H17
    refine Eq.mpr (hF _ _ _ _) ?_
    have hHeld := KS W (unhide R)
    refine wpAnyH_ready (rs := [18]) (by kernel_rfl) (by simp) ?_
    refine AllReadyH.cons (o := { dst := some 133, op := Op.call { callee := Callee.value (Operand.func 20), args := #[Operand.tmp 132], argTypes := #[22] }, type := 31, pos := "law.go:63", after := #[{ on := 17, ground := Ground.data }, { on := 16, ground := Ground.chain }], guard := none }) rfl (fun K hK => ?_) ?_
    · go_simp
      refine (cOr (joinT 3 [a, b]) (joinT 3 [a, c]) v12 v16 M17 _ (unhide H17) (unhide F12) (unhide F16) (by have := unhide HW; have := w2 3 a b; have := w2 3 a c; omega)).mono ?_
      rintro e W1 ⟨⟨v18, rfl, bn⟩, bb⟩
      simp only [Nv.val]
      refine hK.out _ _ (KS _ (below_sub (unhide R) bb)) (fun hHeld => ?_)
      clear hK K
      refine Eq.mp (hF _ _ _ _) ?_
      exact dp_to (unhide st1 W1 M3 v4 M5 v6 M11 v12 M15 v16 M17 v18 (hide (below_sub (unhide R) bb)) (hide (((bb).block _ (heap_lt (unhide H3))).trans (unhide H3))) (hide ((unhide F4).keep (bb))) (hide (((bb).block _ (heap_lt (unhide H5))).trans (unhide H5))) (hide ((unhide F6).keep (bb))) (hide (((bb).block _ (heap_lt (unhide H11))).trans (unhide H11))) (hide ((unhide F12).keep (bb))) (hide (((bb).block _ (heap_lt (unhide H15))).trans (unhide H15))) (hide ((unhide F16).keep (bb))) (hide (((bb).block _ (heap_lt (unhide H17))).trans (unhide H17))) (hide bn.toIn)) (by kernel_rfl) rfl
    exact AllReadyH.nil
    )
  have st3 : Hid (∀ (W : World) (M3 : Nat) (v4 : Nv) (M5 : Nat) (v6 : Nv) (M11 : Nat) (v12 : Nv) (M15 : Nat) (v16 : Nv), Hid (Below U.heap.size U W) → Hid (W.heap[M3]? = some (.cells #[.int .i64 vb.kind, .string vb.attr, .slice vb.qi vb.ni vb.ci, .slice vb.qw vb.nw vb.cw, .int .i64 vb.lo, .int .i64 vb.hi, .int .i64 vb.op, .slice vb.qk vb.nk vb.ck, .int .i64 vc.kind, .string vc.attr, .slice vc.qi vc.ni vc.ci, .slice vc.qw vc.nw vc.cw, .int .i64 vc.lo, .int .i64 vc.hi, .int .i64 vc.op, .slice vc.qk vc.nk vc.ck] 31 (0, 0))) → Hid (NdIn W v4 (joinT 4 [b, c])) → Hid (W.heap[M5]? = some (.cells #[.int .i64 va.kind, .string va.attr, .slice va.qi va.ni va.ci, .slice va.qw va.nw va.cw, .int .i64 va.lo, .int .i64 va.hi, .int .i64 va.op, .slice va.qk va.nk va.ck, .int .i64 v4.kind, .string v4.attr, .slice v4.qi v4.ni v4.ci, .slice v4.qw v4.nw v4.cw, .int .i64 v4.lo, .int .i64 v4.hi, .int .i64 v4.op, .slice v4.qk v4.nk v4.ck] 31 (0, 0))) → Hid (NdIn W v6 (joinT 3 [a, (joinT 4 [b, c])])) → Hid (W.heap[M11]? = some (.cells #[.int .i64 va.kind, .string va.attr, .slice va.qi va.ni va.ci, .slice va.qw va.nw va.cw, .int .i64 va.lo, .int .i64 va.hi, .int .i64 va.op, .slice va.qk va.nk va.ck, .int .i64 vb.kind, .string vb.attr, .slice vb.qi vb.ni vb.ci, .slice vb.qw vb.nw vb.cw, .int .i64 vb.lo, .int .i64 vb.hi, .int .i64 vb.op, .slice vb.qk vb.nk vb.ck] 31 (0, 0))) → Hid (NdIn W v12 (joinT 3 [a, b])) → Hid (W.heap[M15]? = some (.cells #[.int .i64 va.kind, .string va.attr, .slice va.qi va.ni va.ci, .slice va.qw va.nw va.cw, .int .i64 va.lo, .int .i64 va.hi, .int .i64 va.op, .slice va.qk va.nk va.ck, .int .i64 vc.kind, .string vc.attr, .slice vc.qi vc.ni vc.ci, .slice vc.qw vc.nw vc.cw, .int .i64 vc.lo, .int .i64 vc.hi, .int .i64 vc.op, .slice vc.qk vc.nk vc.ck] 31 (0, 0))) → Hid (NdIn W v16 (joinT 3 [a, c])) → F 24 #[true, true, true, true, true, true, true, true, true, true, true, true, true, true, true, true, true, false, false, true, false, false, false, false, false, false, false, false, false, false, false, false, false, false, false, false, false, false, false, false, false, false] (Act.mk #[s0, s1, s2, .slice qe ev.length ce, .pointer (some ⟨A, 0, none⟩), .pointer (some ⟨B, 0, none⟩), .pointer (some ⟨C, 0, none⟩), s7, s8, .bool x, .bool y, .bool z, .bool (x && y), .bool (x || y), s14, s15, s16, s17, s18, s19, s20, s21, s22, s23, s24, s25, s26, s27, s28, s29, s30, s31, s32, s33, s34, s35, s36, s37, s38, s39, s40, s41, s42, s43, s44, s45, s46, s47, s48, s49, s50, s51, s52, s53, s54, s55, s56, s57, s58, s59, s60, s61, s62, s63, s64, s65, s66, s67, s68, s69, s70, s71, s72, s73, s74, s75, s76, s77, s78, s79, s80, s81, s82, s83, s84, s85, s86, s87, s88, s89, s90, s91, s92, s93, s94, s95, s96, s97, s98, s99, s100, s101, s102, s103, s104, s105, s106, s107, s108, s109, s110, s111, s112, s113, s114, .agg #[.int .i64 va.kind, .string va.attr, .slice va.qi va.ni va.ci, .slice va.qw va.nw va.cw, .int .i64 va.lo, .int .i64 va.hi, .int .i64 va.op, .slice va.qk va.nk va.ck], .agg #[.int .i64 vb.kind, .string vb.attr, .slice vb.qi vb.ni vb.ci, .slice vb.qw vb.nw vb.cw, .int .i64 vb.lo, .int .i64 vb.hi, .int .i64 vb.op, .slice vb.qk vb.nk vb.ck], .agg #[.int .i64 vc.kind, .string vc.attr, .slice vc.qi vc.ni vc.ci, .slice vc.qw vc.nw vc.cw, .int .i64 vc.lo, .int .i64 vc.hi, .int .i64 vc.op, .slice vc.qk vc.nk vc.ck], .slice (some ⟨M3, 0, none⟩) 2 2, .agg #[.int .i64 v4.kind, .string v4.attr, .slice v4.qi v4.ni v4.ci, .slice v4.qw v4.nw v4.cw, .int .i64 v4.lo, .int .i64 v4.hi, .int .i64 v4.op, .slice v4.qk v4.nk v4.ck], .slice (some ⟨M5, 0, none⟩) 2 2, .agg #[.int .i64 v6.kind, .string v6.attr, .slice v6.qi v6.ni v6.ci, .slice v6.qw v6.nw v6.cw, .int .i64 v6.lo, .int .i64 v6.hi, .int .i64 v6.op, .slice v6.qk v6.nk v6.ck], .slice qe ev.length ce, .bool (x && (y || z)), .agg #[.int .i64 va.kind, .string va.attr, .slice va.qi va.ni va.ci, .slice va.qw va.nw va.cw, .int .i64 va.lo, .int .i64 va.hi, .int .i64 va.op, .slice va.qk va.nk va.ck], .agg #[.int .i64 vb.kind, .string vb.attr, .slice vb.qi vb.ni vb.ci, .slice vb.qw vb.nw vb.cw, .int .i64 vb.lo, .int .i64 vb.hi, .int .i64 vb.op, .slice vb.qk vb.nk vb.ck], .slice (some ⟨M11, 0, none⟩) 2 2, .agg #[.int .i64 v12.kind, .string v12.attr, .slice v12.qi v12.ni v12.ci, .slice v12.qw v12.nw v12.cw, .int .i64 v12.lo, .int .i64 v12.hi, .int .i64 v12.op, .slice v12.qk v12.nk v12.ck], .agg #[.int .i64 va.kind, .string va.attr, .slice va.qi va.ni va.ci, .slice va.qw va.nw va.cw, .int .i64 va.lo, .int .i64 va.hi, .int .i64 va.op, .slice va.qk va.nk va.ck], .agg #[.int .i64 vc.kind, .string vc.attr, .slice vc.qi vc.ni vc.ci, .slice vc.qw vc.nw vc.cw, .int .i64 vc.lo, .int .i64 vc.hi, .int .i64 vc.op, .slice vc.qk vc.nk vc.ck], .slice (some ⟨M15, 0, none⟩) 2 2, .agg #[.int .i64 v16.kind, .string v16.attr, .slice v16.qi v16.ni v16.ci, .slice v16.qw v16.nw v16.cw, .int .i64 v16.lo, .int .i64 v16.hi, .int .i64 v16.op, .slice v16.qk v16.nk v16.ck], s132, s133, .slice qe ev.length ce, s135, s136, s137, s138, s139, s140, s141, s142, s143, s144, s145, s146, s147, s148, s149, s150, s151, s152, s153, s154, s155] d) W) := hide (by
    intro W M3 v4 M5 v6 M11 v12 M15 v16 R H3 F4 H5 F6 H11 F12 H15 F16
    refine Eq.mpr (hF _ _ _ _) ?_
    have hHeld := KS W (unhide R)
    refine wpAnyH_ready (rs := [17]) (by kernel_rfl) (by simp) ?_
    refine AllReadyH.cons (o := { dst := some 132, op := Op.buildSlice 22 2 #[(0, Operand.tmp 127), (1, Operand.tmp 131)], type := 22, pos := "law.go:63", after := #[{ on := 12, ground := Ground.data }, { on := 16, ground := Ground.data }], guard := none }) rfl (fun K hK => ?_) ?_
    · go_simp
      refine hK.out _ _ (KS _ ((unhide R).alloc (unhide R).size _)) (fun hHeld => ?_)
      clear hK K
      refine Eq.mp (hF _ _ _ _) ?_
      exact dp_to (unhide st2 (World.alloc W (.cells #[.int .i64 v12.kind, .string v12.attr, .slice v12.qi v12.ni v12.ci, .slice v12.qw v12.nw v12.cw, .int .i64 v12.lo, .int .i64 v12.hi, .int .i64 v12.op, .slice v12.qk v12.nk v12.ck, .int .i64 v16.kind, .string v16.attr, .slice v16.qi v16.ni v16.ci, .slice v16.qw v16.nw v16.cw, .int .i64 v16.lo, .int .i64 v16.hi, .int .i64 v16.op, .slice v16.qk v16.nk v16.ck] 31)) M3 v4 M5 v6 M11 v12 M15 v16 W.heap.size (hide ((unhide R).alloc (unhide R).size _)) (hide (((((Below.refl W.heap.size W).alloc (Nat.le_refl _) (.cells #[.int .i64 v12.kind, .string v12.attr, .slice v12.qi v12.ni v12.ci, .slice v12.qw v12.nw v12.cw, .int .i64 v12.lo, .int .i64 v12.hi, .int .i64 v12.op, .slice v12.qk v12.nk v12.ck, .int .i64 v16.kind, .string v16.attr, .slice v16.qi v16.ni v16.ci, .slice v16.qw v16.nw v16.cw, .int .i64 v16.lo, .int .i64 v16.hi, .int .i64 v16.op, .slice v16.qk v16.nk v16.ck] 31))).block _ (heap_lt (unhide H3))).trans (unhide H3))) (hide ((unhide F4).keep (((Below.refl W.heap.size W).alloc (Nat.le_refl _) (.cells #[.int .i64 v12.kind, .string v12.attr, .slice v12.qi v12.ni v12.ci, .slice v12.qw v12.nw v12.cw, .int .i64 v12.lo, .int .i64 v12.hi, .int .i64 v12.op, .slice v12.qk v12.nk v12.ck, .int .i64 v16.kind, .string v16.attr, .slice v16.qi v16.ni v16.ci, .slice v16.qw v16.nw v16.cw, .int .i64 v16.lo, .int .i64 v16.hi, .int .i64 v16.op, .slice v16.qk v16.nk v16.ck] 31))))) (hide (((((Below.refl W.heap.size W).alloc (Nat.le_refl _) (.cells #[.int .i64 v12.kind, .string v12.attr, .slice v12.qi v12.ni v12.ci, .slice v12.qw v12.nw v12.cw, .int .i64 v12.lo, .int .i64 v12.hi, .int .i64 v12.op, .slice v12.qk v12.nk v12.ck, .int .i64 v16.kind, .string v16.attr, .slice v16.qi v16.ni v16.ci, .slice v16.qw v16.nw v16.cw, .int .i64 v16.lo, .int .i64 v16.hi, .int .i64 v16.op, .slice v16.qk v16.nk v16.ck] 31))).block _ (heap_lt (unhide H5))).trans (unhide H5))) (hide ((unhide F6).keep (((Below.refl W.heap.size W).alloc (Nat.le_refl _) (.cells #[.int .i64 v12.kind, .string v12.attr, .slice v12.qi v12.ni v12.ci, .slice v12.qw v12.nw v12.cw, .int .i64 v12.lo, .int .i64 v12.hi, .int .i64 v12.op, .slice v12.qk v12.nk v12.ck, .int .i64 v16.kind, .string v16.attr, .slice v16.qi v16.ni v16.ci, .slice v16.qw v16.nw v16.cw, .int .i64 v16.lo, .int .i64 v16.hi, .int .i64 v16.op, .slice v16.qk v16.nk v16.ck] 31))))) (hide (((((Below.refl W.heap.size W).alloc (Nat.le_refl _) (.cells #[.int .i64 v12.kind, .string v12.attr, .slice v12.qi v12.ni v12.ci, .slice v12.qw v12.nw v12.cw, .int .i64 v12.lo, .int .i64 v12.hi, .int .i64 v12.op, .slice v12.qk v12.nk v12.ck, .int .i64 v16.kind, .string v16.attr, .slice v16.qi v16.ni v16.ci, .slice v16.qw v16.nw v16.cw, .int .i64 v16.lo, .int .i64 v16.hi, .int .i64 v16.op, .slice v16.qk v16.nk v16.ck] 31))).block _ (heap_lt (unhide H11))).trans (unhide H11))) (hide ((unhide F12).keep (((Below.refl W.heap.size W).alloc (Nat.le_refl _) (.cells #[.int .i64 v12.kind, .string v12.attr, .slice v12.qi v12.ni v12.ci, .slice v12.qw v12.nw v12.cw, .int .i64 v12.lo, .int .i64 v12.hi, .int .i64 v12.op, .slice v12.qk v12.nk v12.ck, .int .i64 v16.kind, .string v16.attr, .slice v16.qi v16.ni v16.ci, .slice v16.qw v16.nw v16.cw, .int .i64 v16.lo, .int .i64 v16.hi, .int .i64 v16.op, .slice v16.qk v16.nk v16.ck] 31))))) (hide (((((Below.refl W.heap.size W).alloc (Nat.le_refl _) (.cells #[.int .i64 v12.kind, .string v12.attr, .slice v12.qi v12.ni v12.ci, .slice v12.qw v12.nw v12.cw, .int .i64 v12.lo, .int .i64 v12.hi, .int .i64 v12.op, .slice v12.qk v12.nk v12.ck, .int .i64 v16.kind, .string v16.attr, .slice v16.qi v16.ni v16.ci, .slice v16.qw v16.nw v16.cw, .int .i64 v16.lo, .int .i64 v16.hi, .int .i64 v16.op, .slice v16.qk v16.nk v16.ck] 31))).block _ (heap_lt (unhide H15))).trans (unhide H15))) (hide ((unhide F16).keep (((Below.refl W.heap.size W).alloc (Nat.le_refl _) (.cells #[.int .i64 v12.kind, .string v12.attr, .slice v12.qi v12.ni v12.ci, .slice v12.qw v12.nw v12.cw, .int .i64 v12.lo, .int .i64 v12.hi, .int .i64 v12.op, .slice v12.qk v12.nk v12.ck, .int .i64 v16.kind, .string v16.attr, .slice v16.qi v16.ni v16.ci, .slice v16.qw v16.nw v16.cw, .int .i64 v16.lo, .int .i64 v16.hi, .int .i64 v16.op, .slice v16.qk v16.nk v16.ck] 31))))) (hide (box_nw _ _))) (by kernel_rfl) rfl
    exact AllReadyH.nil
    )
  have st4 : Hid (∀ (W : World) (M3 : Nat) (v4 : Nv) (M5 : Nat) (v6 : Nv) (M11 : Nat) (v12 : Nv) (M15 : Nat), Hid (Below U.heap.size U W) → Hid (W.heap[M3]? = some (.cells #[.int .i64 vb.kind, .string vb.attr, .slice vb.qi vb.ni vb.ci, .slice vb.qw vb.nw vb.cw, .int .i64 vb.lo, .int .i64 vb.hi, .int .i64 vb.op, .slice vb.qk vb.nk vb.ck, .int .i64 vc.kind, .string vc.attr, .slice vc.qi vc.ni vc.ci, .slice vc.qw vc.nw vc.cw, .int .i64 vc.lo, .int .i64 vc.hi, .int .i64 vc.op, .slice vc.qk vc.nk vc.ck] 31 (0, 0))) → Hid (NdIn W v4 (joinT 4 [b, c])) → Hid (W.heap[M5]? = some (.cells #[.int .i64 va.kind, .string va.attr, .slice va.qi va.ni va.ci, .slice va.qw va.nw va.cw, .int .i64 va.lo, .int .i64 va.hi, .int .i64 va.op, .slice va.qk va.nk va.ck, .int .i64 v4.kind, .string v4.attr, .slice v4.qi v4.ni v4.ci, .slice v4.qw v4.nw v4.cw, .int .i64 v4.lo, .int .i64 v4.hi, .int .i64 v4.op, .slice v4.qk v4.nk v4.ck] 31 (0, 0))) → Hid (NdIn W v6 (joinT 3 [a, (joinT 4 [b, c])])) → Hid (W.heap[M11]? = some (.cells #[.int .i64 va.kind, .string va.attr, .slice va.qi va.ni va.ci, .slice va.qw va.nw va.cw, .int .i64 va.lo, .int .i64 va.hi, .int .i64 va.op, .slice va.qk va.nk va.ck, .int .i64 vb.kind, .string vb.attr, .slice vb.qi vb.ni vb.ci, .slice vb.qw vb.nw vb.cw, .int .i64 vb.lo, .int .i64 vb.hi, .int .i64 vb.op, .slice vb.qk vb.nk vb.ck] 31 (0, 0))) → Hid (NdIn W v12 (joinT 3 [a, b])) → Hid (W.heap[M15]? = some (.cells #[.int .i64 va.kind, .string va.attr, .slice va.qi va.ni va.ci, .slice va.qw va.nw va.cw, .int .i64 va.lo, .int .i64 va.hi, .int .i64 va.op, .slice va.qk va.nk va.ck, .int .i64 vc.kind, .string vc.attr, .slice vc.qi vc.ni vc.ci, .slice vc.qw vc.nw vc.cw, .int .i64 vc.lo, .int .i64 vc.hi, .int .i64 vc.op, .slice vc.qk vc.nk vc.ck] 31 (0, 0))) → F 25 #[true, true, true, true, true, true, true, true, true, true, true, true, true, true, true, true, false, false, false, true, false, false, false, false, false, false, false, false, false, false, false, false, false, false, false, false, false, false, false, false, false, false] (Act.mk #[s0, s1, s2, .slice qe ev.length ce, .pointer (some ⟨A, 0, none⟩), .pointer (some ⟨B, 0, none⟩), .pointer (some ⟨C, 0, none⟩), s7, s8, .bool x, .bool y, .bool z, .bool (x && y), .bool (x || y), s14, s15, s16, s17, s18, s19, s20, s21, s22, s23, s24, s25, s26, s27, s28, s29, s30, s31, s32, s33, s34, s35, s36, s37, s38, s39, s40, s41, s42, s43, s44, s45, s46, s47, s48, s49, s50, s51, s52, s53, s54, s55, s56, s57, s58, s59, s60, s61, s62, s63, s64, s65, s66, s67, s68, s69, s70, s71, s72, s73, s74, s75, s76, s77, s78, s79, s80, s81, s82, s83, s84, s85, s86, s87, s88, s89, s90, s91, s92, s93, s94, s95, s96, s97, s98, s99, s100, s101, s102, s103, s104, s105, s106, s107, s108, s109, s110, s111, s112, s113, s114, .agg #[.int .i64 va.kind, .string va.attr, .slice va.qi va.ni va.ci, .slice va.qw va.nw va.cw, .int .i64 va.lo, .int .i64 va.hi, .int .i64 va.op, .slice va.qk va.nk va.ck], .agg #[.int .i64 vb.kind, .string vb.attr, .slice vb.qi vb.ni vb.ci, .slice vb.qw vb.nw vb.cw, .int .i64 vb.lo, .int .i64 vb.hi, .int .i64 vb.op, .slice vb.qk vb.nk vb.ck], .agg #[.int .i64 vc.kind, .string vc.attr, .slice vc.qi vc.ni vc.ci, .slice vc.qw vc.nw vc.cw, .int .i64 vc.lo, .int .i64 vc.hi, .int .i64 vc.op, .slice vc.qk vc.nk vc.ck], .slice (some ⟨M3, 0, none⟩) 2 2, .agg #[.int .i64 v4.kind, .string v4.attr, .slice v4.qi v4.ni v4.ci, .slice v4.qw v4.nw v4.cw, .int .i64 v4.lo, .int .i64 v4.hi, .int .i64 v4.op, .slice v4.qk v4.nk v4.ck], .slice (some ⟨M5, 0, none⟩) 2 2, .agg #[.int .i64 v6.kind, .string v6.attr, .slice v6.qi v6.ni v6.ci, .slice v6.qw v6.nw v6.cw, .int .i64 v6.lo, .int .i64 v6.hi, .int .i64 v6.op, .slice v6.qk v6.nk v6.ck], .slice qe ev.length ce, .bool (x && (y || z)), .agg #[.int .i64 va.kind, .string va.attr, .slice va.qi va.ni va.ci, .slice va.qw va.nw va.cw, .int .i64 va.lo, .int .i64 va.hi, .int .i64 va.op, .slice va.qk va.nk va.ck], .agg #[.int .i64 vb.kind, .string vb.attr, .slice vb.qi vb.ni vb.ci, .slice vb.qw vb.nw vb.cw, .int .i64 vb.lo, .int .i64 vb.hi, .int .i64 vb.op, .slice vb.qk vb.nk vb.ck], .slice (some ⟨M11, 0, none⟩) 2 2, .agg #[.int .i64 v12.kind, .string v12.attr, .slice v12.qi v12.ni v12.ci, .slice v12.qw v12.nw v12.cw, .int .i64 v12.lo, .int .i64 v12.hi, .int .i64 v12.op, .slice v12.qk v12.nk v12.ck], .agg #[.int .i64 va.kind, .string va.attr, .slice va.qi va.ni va.ci, .slice va.qw va.nw va.cw, .int .i64 va.lo, .int .i64 va.hi, .int .i64 va.op, .slice va.qk va.nk va.ck], .agg #[.int .i64 vc.kind, .string vc.attr, .slice vc.qi vc.ni vc.ci, .slice vc.qw vc.nw vc.cw, .int .i64 vc.lo, .int .i64 vc.hi, .int .i64 vc.op, .slice vc.qk vc.nk vc.ck], .slice (some ⟨M15, 0, none⟩) 2 2, s131, s132, s133, .slice qe ev.length ce, s135, s136, s137, s138, s139, s140, s141, s142, s143, s144, s145, s146, s147, s148, s149, s150, s151, s152, s153, s154, s155] d) W) := hide (by
    intro W M3 v4 M5 v6 M11 v12 M15 R H3 F4 H5 F6 H11 F12 H15
    refine Eq.mpr (hF _ _ _ _) ?_
    have hHeld := KS W (unhide R)
    refine wpAnyH_ready (rs := [16]) (by kernel_rfl) (by simp) ?_
    refine AllReadyH.cons (o := { dst := some 131, op := Op.call { callee := Callee.value (Operand.func 19), args := #[Operand.tmp 130], argTypes := #[22] }, type := 31, pos := "law.go:63", after := #[{ on := 15, ground := Ground.data }, { on := 12, ground := Ground.chain }], guard := none }) rfl (fun K hK => ?_) ?_
    · go_simp
      refine (cAnd a c va vc M15 _ (unhide H15) ((unhide Na).keep (unhide R)) ((unhide Nc).keep (unhide R)) (by have := unhide HW; omega)).mono ?_
      rintro e W1 ⟨⟨v16, rfl, bn⟩, bb⟩
      simp only [Nv.val]
      refine hK.out _ _ (KS _ (below_sub (unhide R) bb)) (fun hHeld => ?_)
      clear hK K
      refine Eq.mp (hF _ _ _ _) ?_
      exact dp_to (unhide st3 W1 M3 v4 M5 v6 M11 v12 M15 v16 (hide (below_sub (unhide R) bb)) (hide (((bb).block _ (heap_lt (unhide H3))).trans (unhide H3))) (hide ((unhide F4).keep (bb))) (hide (((bb).block _ (heap_lt (unhide H5))).trans (unhide H5))) (hide ((unhide F6).keep (bb))) (hide (((bb).block _ (heap_lt (unhide H11))).trans (unhide H11))) (hide ((unhide F12).keep (bb))) (hide (((bb).block _ (heap_lt (unhide H15))).trans (unhide H15))) (hide bn.toIn)) (by kernel_rfl) rfl
    exact AllReadyH.nil
    )
  have st5 : Hid (∀ (W : World) (M3 : Nat) (v4 : Nv) (M5 : Nat) (v6 : Nv) (M11 : Nat) (v12 : Nv), Hid (Below U.heap.size U W) → Hid (W.heap[M3]? = some (.cells #[.int .i64 vb.kind, .string vb.attr, .slice vb.qi vb.ni vb.ci, .slice vb.qw vb.nw vb.cw, .int .i64 vb.lo, .int .i64 vb.hi, .int .i64 vb.op, .slice vb.qk vb.nk vb.ck, .int .i64 vc.kind, .string vc.attr, .slice vc.qi vc.ni vc.ci, .slice vc.qw vc.nw vc.cw, .int .i64 vc.lo, .int .i64 vc.hi, .int .i64 vc.op, .slice vc.qk vc.nk vc.ck] 31 (0, 0))) → Hid (NdIn W v4 (joinT 4 [b, c])) → Hid (W.heap[M5]? = some (.cells #[.int .i64 va.kind, .string va.attr, .slice va.qi va.ni va.ci, .slice va.qw va.nw va.cw, .int .i64 va.lo, .int .i64 va.hi, .int .i64 va.op, .slice va.qk va.nk va.ck, .int .i64 v4.kind, .string v4.attr, .slice v4.qi v4.ni v4.ci, .slice v4.qw v4.nw v4.cw, .int .i64 v4.lo, .int .i64 v4.hi, .int .i64 v4.op, .slice v4.qk v4.nk v4.ck] 31 (0, 0))) → Hid (NdIn W v6 (joinT 3 [a, (joinT 4 [b, c])])) → Hid (W.heap[M11]? = some (.cells #[.int .i64 va.kind, .string va.attr, .slice va.qi va.ni va.ci, .slice va.qw va.nw va.cw, .int .i64 va.lo, .int .i64 va.hi, .int .i64 va.op, .slice va.qk va.nk va.ck, .int .i64 vb.kind, .string vb.attr, .slice vb.qi vb.ni vb.ci, .slice vb.qw vb.nw vb.cw, .int .i64 vb.lo, .int .i64 vb.hi, .int .i64 vb.op, .slice vb.qk vb.nk vb.ck] 31 (0, 0))) → Hid (NdIn W v12 (joinT 3 [a, b])) → F 26 #[true, true, true, true, true, true, true, true, true, true, true, true, true, true, true, false, false, false, false, true, false, false, false, false, false, false, false, false, false, false, false, false, false, false, false, false, false, false, false, false, false, false] (Act.mk #[s0, s1, s2, .slice qe ev.length ce, .pointer (some ⟨A, 0, none⟩), .pointer (some ⟨B, 0, none⟩), .pointer (some ⟨C, 0, none⟩), s7, s8, .bool x, .bool y, .bool z, .bool (x && y), .bool (x || y), s14, s15, s16, s17, s18, s19, s20, s21, s22, s23, s24, s25, s26, s27, s28, s29, s30, s31, s32, s33, s34, s35, s36, s37, s38, s39, s40, s41, s42, s43, s44, s45, s46, s47, s48, s49, s50, s51, s52, s53, s54, s55, s56, s57, s58, s59, s60, s61, s62, s63, s64, s65, s66, s67, s68, s69, s70, s71, s72, s73, s74, s75, s76, s77, s78, s79, s80, s81, s82, s83, s84, s85, s86, s87, s88, s89, s90, s91, s92, s93, s94, s95, s96, s97, s98, s99, s100, s101, s102, s103, s104, s105, s106, s107, s108, s109, s110, s111, s112, s113, s114, .agg #[.int .i64 va.kind, .string va.attr, .slice va.qi va.ni va.ci, .slice va.qw va.nw va.cw, .int .i64 va.lo, .int .i64 va.hi, .int .i64 va.op, .slice va.qk va.nk va.ck], .agg #[.int .i64 vb.kind, .string vb.attr, .slice vb.qi vb.ni vb.ci, .slice vb.qw vb.nw vb.cw, .int .i64 vb.lo, .int .i64 vb.hi, .int .i64 vb.op, .slice vb.qk vb.nk vb.ck], .agg #[.int .i64 vc.kind, .string vc.attr, .slice vc.qi vc.ni vc.ci, .slice vc.qw vc.nw vc.cw, .int .i64 vc.lo, .int .i64 vc.hi, .int .i64 vc.op, .slice vc.qk vc.nk vc.ck], .slice (some ⟨M3, 0, none⟩) 2 2, .agg #[.int .i64 v4.kind, .string v4.attr, .slice v4.qi v4.ni v4.ci, .slice v4.qw v4.nw v4.cw, .int .i64 v4.lo, .int .i64 v4.hi, .int .i64 v4.op, .slice v4.qk v4.nk v4.ck], .slice (some ⟨M5, 0, none⟩) 2 2, .agg #[.int .i64 v6.kind, .string v6.attr, .slice v6.qi v6.ni v6.ci, .slice v6.qw v6.nw v6.cw, .int .i64 v6.lo, .int .i64 v6.hi, .int .i64 v6.op, .slice v6.qk v6.nk v6.ck], .slice qe ev.length ce, .bool (x && (y || z)), .agg #[.int .i64 va.kind, .string va.attr, .slice va.qi va.ni va.ci, .slice va.qw va.nw va.cw, .int .i64 va.lo, .int .i64 va.hi, .int .i64 va.op, .slice va.qk va.nk va.ck], .agg #[.int .i64 vb.kind, .string vb.attr, .slice vb.qi vb.ni vb.ci, .slice vb.qw vb.nw vb.cw, .int .i64 vb.lo, .int .i64 vb.hi, .int .i64 vb.op, .slice vb.qk vb.nk vb.ck], .slice (some ⟨M11, 0, none⟩) 2 2, .agg #[.int .i64 v12.kind, .string v12.attr, .slice v12.qi v12.ni v12.ci, .slice v12.qw v12.nw v12.cw, .int .i64 v12.lo, .int .i64 v12.hi, .int .i64 v12.op, .slice v12.qk v12.nk v12.ck], .agg #[.int .i64 va.kind, .string va.attr, .slice va.qi va.ni va.ci, .slice va.qw va.nw va.cw, .int .i64 va.lo, .int .i64 va.hi, .int .i64 va.op, .slice va.qk va.nk va.ck], .agg #[.int .i64 vc.kind, .string vc.attr, .slice vc.qi vc.ni vc.ci, .slice vc.qw vc.nw vc.cw, .int .i64 vc.lo, .int .i64 vc.hi, .int .i64 vc.op, .slice vc.qk vc.nk vc.ck], s130, s131, s132, s133, .slice qe ev.length ce, s135, s136, s137, s138, s139, s140, s141, s142, s143, s144, s145, s146, s147, s148, s149, s150, s151, s152, s153, s154, s155] d) W) := hide (by
    intro W M3 v4 M5 v6 M11 v12 R H3 F4 H5 F6 H11 F12
    refine Eq.mpr (hF _ _ _ _) ?_
    have hHeld := KS W (unhide R)
    refine wpAnyH_ready (rs := [15]) (by kernel_rfl) (by simp) ?_
    refine AllReadyH.cons (o := { dst := some 130, op := Op.buildSlice 22 2 #[(0, Operand.tmp 128), (1, Operand.tmp 129)], type := 22, pos := "law.go:63", after := #[{ on := 13, ground := Ground.data }, { on := 14, ground := Ground.data }], guard := none }) rfl (fun K hK => ?_) ?_
    · go_simp
      refine hK.out _ _ (KS _ ((unhide R).alloc (unhide R).size _)) (fun hHeld => ?_)
      clear hK K
      refine Eq.mp (hF _ _ _ _) ?_
      exact dp_to (unhide st4 (World.alloc W (.cells #[.int .i64 va.kind, .string va.attr, .slice va.qi va.ni va.ci, .slice va.qw va.nw va.cw, .int .i64 va.lo, .int .i64 va.hi, .int .i64 va.op, .slice va.qk va.nk va.ck, .int .i64 vc.kind, .string vc.attr, .slice vc.qi vc.ni vc.ci, .slice vc.qw vc.nw vc.cw, .int .i64 vc.lo, .int .i64 vc.hi, .int .i64 vc.op, .slice vc.qk vc.nk vc.ck] 31)) M3 v4 M5 v6 M11 v12 W.heap.size (hide ((unhide R).alloc (unhide R).size _)) (hide (((((Below.refl W.heap.size W).alloc (Nat.le_refl _) (.cells #[.int .i64 va.kind, .string va.attr, .slice va.qi va.ni va.ci, .slice va.qw va.nw va.cw, .int .i64 va.lo, .int .i64 va.hi, .int .i64 va.op, .slice va.qk va.nk va.ck, .int .i64 vc.kind, .string vc.attr, .slice vc.qi vc.ni vc.ci, .slice vc.qw vc.nw vc.cw, .int .i64 vc.lo, .int .i64 vc.hi, .int .i64 vc.op, .slice vc.qk vc.nk vc.ck] 31))).block _ (heap_lt (unhide H3))).trans (unhide H3))) (hide ((unhide F4).keep (((Below.refl W.heap.size W).alloc (Nat.le_refl _) (.cells #[.int .i64 va.kind, .string va.attr, .slice va.qi va.ni va.ci, .slice va.qw va.nw va.cw, .int .i64 va.lo, .int .i64 va.hi, .int .i64 va.op, .slice va.qk va.nk va.ck, .int .i64 vc.kind, .string vc.attr, .slice vc.qi vc.ni vc.ci, .slice vc.qw vc.nw vc.cw, .int .i64 vc.lo, .int .i64 vc.hi, .int .i64 vc.op, .slice vc.qk vc.nk vc.ck] 31))))) (hide (((((Below.refl W.heap.size W).alloc (Nat.le_refl _) (.cells #[.int .i64 va.kind, .string va.attr, .slice va.qi va.ni va.ci, .slice va.qw va.nw va.cw, .int .i64 va.lo, .int .i64 va.hi, .int .i64 va.op, .slice va.qk va.nk va.ck, .int .i64 vc.kind, .string vc.attr, .slice vc.qi vc.ni vc.ci, .slice vc.qw vc.nw vc.cw, .int .i64 vc.lo, .int .i64 vc.hi, .int .i64 vc.op, .slice vc.qk vc.nk vc.ck] 31))).block _ (heap_lt (unhide H5))).trans (unhide H5))) (hide ((unhide F6).keep (((Below.refl W.heap.size W).alloc (Nat.le_refl _) (.cells #[.int .i64 va.kind, .string va.attr, .slice va.qi va.ni va.ci, .slice va.qw va.nw va.cw, .int .i64 va.lo, .int .i64 va.hi, .int .i64 va.op, .slice va.qk va.nk va.ck, .int .i64 vc.kind, .string vc.attr, .slice vc.qi vc.ni vc.ci, .slice vc.qw vc.nw vc.cw, .int .i64 vc.lo, .int .i64 vc.hi, .int .i64 vc.op, .slice vc.qk vc.nk vc.ck] 31))))) (hide (((((Below.refl W.heap.size W).alloc (Nat.le_refl _) (.cells #[.int .i64 va.kind, .string va.attr, .slice va.qi va.ni va.ci, .slice va.qw va.nw va.cw, .int .i64 va.lo, .int .i64 va.hi, .int .i64 va.op, .slice va.qk va.nk va.ck, .int .i64 vc.kind, .string vc.attr, .slice vc.qi vc.ni vc.ci, .slice vc.qw vc.nw vc.cw, .int .i64 vc.lo, .int .i64 vc.hi, .int .i64 vc.op, .slice vc.qk vc.nk vc.ck] 31))).block _ (heap_lt (unhide H11))).trans (unhide H11))) (hide ((unhide F12).keep (((Below.refl W.heap.size W).alloc (Nat.le_refl _) (.cells #[.int .i64 va.kind, .string va.attr, .slice va.qi va.ni va.ci, .slice va.qw va.nw va.cw, .int .i64 va.lo, .int .i64 va.hi, .int .i64 va.op, .slice va.qk va.nk va.ck, .int .i64 vc.kind, .string vc.attr, .slice vc.qi vc.ni vc.ci, .slice vc.qw vc.nw vc.cw, .int .i64 vc.lo, .int .i64 vc.hi, .int .i64 vc.op, .slice vc.qk vc.nk vc.ck] 31))))) (hide (box_nw _ _))) (by kernel_rfl) rfl
    exact AllReadyH.nil
    )
  have st6 : Hid (∀ (W : World) (M3 : Nat) (v4 : Nv) (M5 : Nat) (v6 : Nv) (M11 : Nat) (M15 : Nat), Hid (Below U.heap.size U W) → Hid (W.heap[M3]? = some (.cells #[.int .i64 vb.kind, .string vb.attr, .slice vb.qi vb.ni vb.ci, .slice vb.qw vb.nw vb.cw, .int .i64 vb.lo, .int .i64 vb.hi, .int .i64 vb.op, .slice vb.qk vb.nk vb.ck, .int .i64 vc.kind, .string vc.attr, .slice vc.qi vc.ni vc.ci, .slice vc.qw vc.nw vc.cw, .int .i64 vc.lo, .int .i64 vc.hi, .int .i64 vc.op, .slice vc.qk vc.nk vc.ck] 31 (0, 0))) → Hid (NdIn W v4 (joinT 4 [b, c])) → Hid (W.heap[M5]? = some (.cells #[.int .i64 va.kind, .string va.attr, .slice va.qi va.ni va.ci, .slice va.qw va.nw va.cw, .int .i64 va.lo, .int .i64 va.hi, .int .i64 va.op, .slice va.qk va.nk va.ck, .int .i64 v4.kind, .string v4.attr, .slice v4.qi v4.ni v4.ci, .slice v4.qw v4.nw v4.cw, .int .i64 v4.lo, .int .i64 v4.hi, .int .i64 v4.op, .slice v4.qk v4.nk v4.ck] 31 (0, 0))) → Hid (NdIn W v6 (joinT 3 [a, (joinT 4 [b, c])])) → Hid (W.heap[M11]? = some (.cells #[.int .i64 va.kind, .string va.attr, .slice va.qi va.ni va.ci, .slice va.qw va.nw va.cw, .int .i64 va.lo, .int .i64 va.hi, .int .i64 va.op, .slice va.qk va.nk va.ck, .int .i64 vb.kind, .string vb.attr, .slice vb.qi vb.ni vb.ci, .slice vb.qw vb.nw vb.cw, .int .i64 vb.lo, .int .i64 vb.hi, .int .i64 vb.op, .slice vb.qk vb.nk vb.ck] 31 (0, 0))) → Hid (W.heap[M15]? = some (.cells #[.int .i64 va.kind, .string va.attr, .slice va.qi va.ni va.ci, .slice va.qw va.nw va.cw, .int .i64 va.lo, .int .i64 va.hi, .int .i64 va.op, .slice va.qk va.nk va.ck, .int .i64 vc.kind, .string vc.attr, .slice vc.qi vc.ni vc.ci, .slice vc.qw vc.nw vc.cw, .int .i64 vc.lo, .int .i64 vc.hi, .int .i64 vc.op, .slice vc.qk vc.nk vc.ck] 31 (0, 0))) → F 26 #[true, true, true, true, true, true, true, true, true, true, true, true, false, true, true, true, false, false, false, true, false, false, false, false, false, false, false, false, false, false, false, false, false, false, false, false, false, false, false, false, false, false] (Act.mk #[s0, s1, s2, .slice qe ev.length ce, .pointer (some ⟨A, 0, none⟩), .pointer (some ⟨B, 0, none⟩), .pointer (some ⟨C, 0, none⟩), s7, s8, .bool x, .bool y, .bool z, .bool (x && y), .bool (x || y), s14, s15, s16, s17, s18, s19, s20, s21, s22, s23, s24, s25, s26, s27, s28, s29, s30, s31, s32, s33, s34, s35, s36, s37, s38, s39, s40, s41, s42, s43, s44, s45, s46, s47, s48, s49, s50, s51, s52, s53, s54, s55, s56, s57, s58, s59, s60, s61, s62, s63, s64, s65, s66, s67, s68, s69, s70, s71, s72, s73, s74, s75, s76, s77, s78, s79, s80, s81, s82, s83, s84, s85, s86, s87, s88, s89, s90, s91, s92, s93, s94, s95, s96, s97, s98, s99, s100, s101, s102, s103, s104, s105, s106, s107, s108, s109, s110, s111, s112, s113, s114, .agg #[.int .i64 va.kind, .string va.attr, .slice va.qi va.ni va.ci, .slice va.qw va.nw va.cw, .int .i64 va.lo, .int .i64 va.hi, .int .i64 va.op, .slice va.qk va.nk va.ck], .agg #[.int .i64 vb.kind, .string vb.attr, .slice vb.qi vb.ni vb.ci, .slice vb.qw vb.nw vb.cw, .int .i64 vb.lo, .int .i64 vb.hi, .int .i64 vb.op, .slice vb.qk vb.nk vb.ck], .agg #[.int .i64 vc.kind, .string vc.attr, .slice vc.qi vc.ni vc.ci, .slice vc.qw vc.nw vc.cw, .int .i64 vc.lo, .int .i64 vc.hi, .int .i64 vc.op, .slice vc.qk vc.nk vc.ck], .slice (some ⟨M3, 0, none⟩) 2 2, .agg #[.int .i64 v4.kind, .string v4.attr, .slice v4.qi v4.ni v4.ci, .slice v4.qw v4.nw v4.cw, .int .i64 v4.lo, .int .i64 v4.hi, .int .i64 v4.op, .slice v4.qk v4.nk v4.ck], .slice (some ⟨M5, 0, none⟩) 2 2, .agg #[.int .i64 v6.kind, .string v6.attr, .slice v6.qi v6.ni v6.ci, .slice v6.qw v6.nw v6.cw, .int .i64 v6.lo, .int .i64 v6.hi, .int .i64 v6.op, .slice v6.qk v6.nk v6.ck], .slice qe ev.length ce, .bool (x && (y || z)), .agg #[.int .i64 va.kind, .string va.attr, .slice va.qi va.ni va.ci, .slice va.qw va.nw va.cw, .int .i64 va.lo, .int .i64 va.hi, .int .i64 va.op, .slice va.qk va.nk va.ck], .agg #[.int .i64 vb.kind, .string vb.attr, .slice vb.qi vb.ni vb.ci, .slice vb.qw vb.nw vb.cw, .int .i64 vb.lo, .int .i64 vb.hi, .int .i64 vb.op, .slice vb.qk vb.nk vb.ck], .slice (some ⟨M11, 0, none⟩) 2 2, s127, .agg #[.int .i64 va.kind, .string va.attr, .slice va.qi va.ni va.ci, .slice va.qw va.nw va.cw, .int .i64 va.lo, .int .i64 va.hi, .int .i64 va.op, .slice va.qk va.nk va.ck], .agg #[.int .i64 vc.kind, .string vc.attr, .slice vc.qi vc.ni vc.ci, .slice vc.qw vc.nw vc.cw, .int .i64 vc.lo, .int .i64 vc.hi, .int .i64 vc.op, .slice vc.qk vc.nk vc.ck], .slice (some ⟨M15, 0, none⟩) 2 2, s131, s132, s133, .slice qe ev.length ce, s135, s136, s137, s138, s139, s140, s141, s142, s143, s144, s145, s146, s147, s148, s149, s150, s151, s152, s153, s154, s155] d) W) := hide (by
    intro W M3 v4 M5 v6 M11 M15 R H3 F4 H5 F6 H11 H15
    refine Eq.mpr (hF _ _ _ _) ?_
    have hHeld := KS W (unhide R)
    refine wpAnyH_ready (rs := [12]) (by kernel_rfl) (by simp) ?_
    refine AllReadyH.cons (o := { dst := some 127, op := Op.call { callee := Callee.value (Operand.func 19), args := #[Operand.tmp 126], argTypes := #[22] }, type := 31, pos := "law.go:63", after := #[{ on := 11, ground := Ground.data }, { on := 8, ground := Ground.chain }], guard := none }) rfl (fun K hK => ?_) ?_
    · go_simp
      refine (cAnd a b va vb M11 _ (unhide H11) ((unhide Na).keep (unhide R)) ((unhide Nb).keep (unhide R)) (by have := unhide HW; omega)).mono ?_
      rintro e W1 ⟨⟨v12, rfl, bn⟩, bb⟩
      simp only [Nv.val]
      refine hK.out _ _ (KS _ (below_sub (unhide R) bb)) (fun hHeld => ?_)
      clear hK K
      refine Eq.mp (hF _ _ _ _) ?_
      exact dp_to (unhide st4 W1 M3 v4 M5 v6 M11 v12 M15 (hide (below_sub (unhide R) bb)) (hide (((bb).block _ (heap_lt (unhide H3))).trans (unhide H3))) (hide ((unhide F4).keep (bb))) (hide (((bb).block _ (heap_lt (unhide H5))).trans (unhide H5))) (hide ((unhide F6).keep (bb))) (hide (((bb).block _ (heap_lt (unhide H11))).trans (unhide H11))) (hide bn.toIn) (hide (((bb).block _ (heap_lt (unhide H15))).trans (unhide H15)))) (by kernel_rfl) rfl
    exact AllReadyH.nil
    )
  have st7 : Hid (∀ (W : World) (M3 : Nat) (v4 : Nv) (M5 : Nat) (v6 : Nv) (M11 : Nat), Hid (Below U.heap.size U W) → Hid (W.heap[M3]? = some (.cells #[.int .i64 vb.kind, .string vb.attr, .slice vb.qi vb.ni vb.ci, .slice vb.qw vb.nw vb.cw, .int .i64 vb.lo, .int .i64 vb.hi, .int .i64 vb.op, .slice vb.qk vb.nk vb.ck, .int .i64 vc.kind, .string vc.attr, .slice vc.qi vc.ni vc.ci, .slice vc.qw vc.nw vc.cw, .int .i64 vc.lo, .int .i64 vc.hi, .int .i64 vc.op, .slice vc.qk vc.nk vc.ck] 31 (0, 0))) → Hid (NdIn W v4 (joinT 4 [b, c])) → Hid (W.heap[M5]? = some (.cells #[.int .i64 va.kind, .string va.attr, .slice va.qi va.ni va.ci, .slice va.qw va.nw va.cw, .int .i64 va.lo, .int .i64 va.hi, .int .i64 va.op, .slice va.qk va.nk va.ck, .int .i64 v4.kind, .string v4.attr, .slice v4.qi v4.ni v4.ci, .slice v4.qw v4.nw v4.cw, .int .i64 v4.lo, .int .i64 v4.hi, .int .i64 v4.op, .slice v4.qk v4.nk v4.ck] 31 (0, 0))) → Hid (NdIn W v6 (joinT 3 [a, (joinT 4 [b, c])])) → Hid (W.heap[M11]? = some (.cells #[.int .i64 va.kind, .string va.attr, .slice va.qi va.ni va.ci, .slice va.qw va.nw va.cw, .int .i64 va.lo, .int .i64 va.hi, .int .i64 va.op, .slice va.qk va.nk va.ck, .int .i64 vb.kind, .string vb.attr, .slice vb.qi vb.ni vb.ci, .slice vb.qw vb.nw vb.cw, .int .i64 vb.lo, .int .i64 vb.hi, .int .i64 vb.op, .slice vb.qk vb.nk vb.ck] 31 (0, 0))) → F 27 #[true, true, true, true, true, true, true, true, true, true, true, true, false, true, true, false, false, false, false, true, false, false, false, false, false, false, false, false, false, false, false, false, false, false, false, false, false, false, false, false, false, false] (Act.mk #[s0, s1, s2, .slice qe ev.length ce, .pointer (some ⟨A, 0, none⟩), .pointer (some ⟨B, 0, none⟩), .pointer (some ⟨C, 0, none⟩), s7, s8, .bool x, .bool y, .bool z, .bool (x && y), .bool (x || y), s14, s15, s16, s17, s18, s19, s20, s21, s22, s23, s24, s25, s26, s27, s28, s29, s30, s31, s32, s33, s34, s35, s36, s37, s38, s39, s40, s41, s42, s43, s44, s45, s46, s47, s48, s49, s50, s51, s52, s53, s54, s55, s56, s57, s58, s59, s60, s61, s62, s63, s64, s65, s66, s67, s68, s69, s70, s71, s72, s73, s74, s75, s76, s77, s78, s79, s80, s81, s82, s83, s84, s85, s86, s87, s88, s89, s90, s91, s92, s93, s94, s95, s96, s97, s98, s99, s100, s101, s102, s103, s104, s105, s106, s107, s108, s109, s110, s111, s112, s113, s114, .agg #[.int .i64 va.kind, .string va.attr, .slice va.qi va.ni va.ci, .slice va.qw va.nw va.cw, .int .i64 va.lo, .int .i64 va.hi, .int .i64 va.op, .slice va.qk va.nk va.ck], .agg #[.int .i64 vb.kind, .string vb.attr, .slice vb.qi vb.ni vb.ci, .slice vb.qw vb.nw vb.cw, .int .i64 vb.lo, .int .i64 vb.hi, .int .i64 vb.op, .slice vb.qk vb.nk vb.ck], .agg #[.int .i64 vc.kind, .string vc.attr, .slice vc.qi vc.ni vc.ci, .slice vc.qw vc.nw vc.cw, .int .i64 vc.lo, .int .i64 vc.hi, .int .i64 vc.op, .slice vc.qk vc.nk vc.ck], .slice (some ⟨M3, 0, none⟩) 2 2, .agg #[.int .i64 v4.kind, .string v4.attr, .slice v4.qi v4.ni v4.ci, .slice v4.qw v4.nw v4.cw, .int .i64 v4.lo, .int .i64 v4.hi, .int .i64 v4.op, .slice v4.qk v4.nk v4.ck], .slice (some ⟨M5, 0, none⟩) 2 2, .agg #[.int .i64 v6.kind, .string v6.attr, .slice v6.qi v6.ni v6.ci, .slice v6.qw v6.nw v6.cw, .int .i64 v6.lo, .int .i64 v6.hi, .int .i64 v6.op, .slice v6.qk v6.nk v6.ck], .slice qe ev.length ce, .bool (x && (y || z)), .agg #[.int .i64 va.kind, .string va.attr, .slice va.qi va.ni va.ci, .slice va.qw va.nw va.cw, .int .i64 va.lo, .int .i64 va.hi, .int .i64 va.op, .slice va.qk va.nk va.ck], .agg #[.int .i64 vb.kind, .string vb.attr, .slice vb.qi vb.ni vb.ci, .slice vb.qw vb.nw vb.cw, .int .i64 vb.lo, .int .i64 vb.hi, .int .i64 vb.op, .slice vb.qk vb.nk vb.ck], .slice (some ⟨M11, 0, none⟩) 2 2, s127, .agg #[.int .i64 va.kind, .string va.attr, .slice va.qi va.ni va.ci, .slice va.qw va.nw va.cw, .int .i64 va.lo, .int .i64 va.hi, .int .i64 va.op, .slice va.qk va.nk va.ck], .agg #[.int .i64 vc.kind, .string vc.attr, .slice vc.qi vc.ni vc.ci, .slice vc.qw vc.nw vc.cw, .int .i64 vc.lo, .int .i64 vc.hi, .int .i64 vc.op, .slice vc.qk vc.nk vc.ck], s130, s131, s132, s133, .slice qe ev.length ce, s135, s136, s137, s138, s139, s140, s141, s142, s143, s144, s145, s146, s147, s148, s149, s150, s151, s152, s153, s154, s155] d) W) := hide (by
    intro W M3 v4 M5 v6 M11 R H3 F4 H5 F6 H11
    refine Eq.mpr (hF _ _ _ _) ?_
    have hHeld := KS W (unhide R)
    refine wpAnyH_ready (rs := [12, 15]) (by kernel_rfl) (by simp) ?_
    refine AllReadyH.cons (o := { dst := some 127, op := Op.call { callee := Callee.value (Operand.func 19), args := #[Operand.tmp 126], argTypes := #[22] }, type := 31, pos := "law.go:63", after := #[{ on := 11, ground := Ground.data }, { on := 8, ground := Ground.chain }], guard := none }) rfl (fun K hK => ?_) ?_
    · go_simp
      refine (cAnd a b va vb M11 _ (unhide H11) ((unhide Na).keep (unhide R)) ((unhide Nb).keep (unhide R)) (by have := unhide HW; omega)).mono ?_
      rintro e W1 ⟨⟨v12, rfl, bn⟩, bb⟩
      simp only [Nv.val]
      refine hK.out _ _ (KS _ (below_sub (unhide R) bb)) (fun hHeld => ?_)
      clear hK K
      refine Eq.mp (hF _ _ _ _) ?_
      exact dp_to (unhide st5 W1 M3 v4 M5 v6 M11 v12 (hide (below_sub (unhide R) bb)) (hide (((bb).block _ (heap_lt (unhide H3))).trans (unhide H3))) (hide ((unhide F4).keep (bb))) (hide (((bb).block _ (heap_lt (unhide H5))).trans (unhide H5))) (hide ((unhide F6).keep (bb))) (hide (((bb).block _ (heap_lt (unhide H11))).trans (unhide H11))) (hide bn.toIn)) (by kernel_rfl) rfl
    refine AllReadyH.cons (o := { dst := some 130, op := Op.buildSlice 22 2 #[(0, Operand.tmp 128), (1, Operand.tmp 129)], type := 22, pos := "law.go:63", after := #[{ on := 13, ground := Ground.data }, { on := 14, ground := Ground.data }], guard := none }) rfl (fun K hK => ?_) ?_
    · go_simp
      refine hK.out _ _ (KS _ ((unhide R).alloc (unhide R).size _)) (fun hHeld => ?_)
      clear hK K
      refine Eq.mp (hF _ _ _ _) ?_
      exact dp_to (unhide st6 (World.alloc W (.cells #[.int .i64 va.kind, .string va.attr, .slice va.qi va.ni va.ci, .slice va.qw va.nw va.cw, .int .i64 va.lo, .int .i64 va.hi, .int .i64 va.op, .slice va.qk va.nk va.ck, .int .i64 vc.kind, .string vc.attr, .slice vc.qi vc.ni vc.ci, .slice vc.qw vc.nw vc.cw, .int .i64 vc.lo, .int .i64 vc.hi, .int .i64 vc.op, .slice vc.qk vc.nk vc.ck] 31)) M3 v4 M5 v6 M11 W.heap.size (hide ((unhide R).alloc (unhide R).size _)) (hide (((((Below.refl W.heap.size W).alloc (Nat.le_refl _) (.cells #[.int .i64 va.kind, .string va.attr, .slice va.qi va.ni va.ci, .slice va.qw va.nw va.cw, .int .i64 va.lo, .int .i64 va.hi, .int .i64 va.op, .slice va.qk va.nk va.ck, .int .i64 vc.kind, .string vc.attr, .slice vc.qi vc.ni vc.ci, .slice vc.qw vc.nw vc.cw, .int .i64 vc.lo, .int .i64 vc.hi, .int .i64 vc.op, .slice vc.qk vc.nk vc.ck] 31))).block _ (heap_lt (unhide H3))).trans (unhide H3))) (hide ((unhide F4).keep (((Below.refl W.heap.size W).alloc (Nat.le_refl _) (.cells #[.int .i64 va.kind, .string va.attr, .slice va.qi va.ni va.ci, .slice va.qw va.nw va.cw, .int .i64 va.lo, .int .i64 va.hi, .int .i64 va.op, .slice va.qk va.nk va.ck, .int .i64 vc.kind, .string vc.attr, .slice vc.qi vc.ni vc.ci, .slice vc.qw vc.nw vc.cw, .int .i64 vc.lo, .int .i64 vc.hi, .int .i64 vc.op, .slice vc.qk vc.nk vc.ck] 31))))) (hide (((((Below.refl W.heap.size W).alloc (Nat.le_refl _) (.cells #[.int .i64 va.kind, .string va.attr, .slice va.qi va.ni va.ci, .slice va.qw va.nw va.cw, .int .i64 va.lo, .int .i64 va.hi, .int .i64 va.op, .slice va.qk va.nk va.ck, .int .i64 vc.kind, .string vc.attr, .slice vc.qi vc.ni vc.ci, .slice vc.qw vc.nw vc.cw, .int .i64 vc.lo, .int .i64 vc.hi, .int .i64 vc.op, .slice vc.qk vc.nk vc.ck] 31))).block _ (heap_lt (unhide H5))).trans (unhide H5))) (hide ((unhide F6).keep (((Below.refl W.heap.size W).alloc (Nat.le_refl _) (.cells #[.int .i64 va.kind, .string va.attr, .slice va.qi va.ni va.ci, .slice va.qw va.nw va.cw, .int .i64 va.lo, .int .i64 va.hi, .int .i64 va.op, .slice va.qk va.nk va.ck, .int .i64 vc.kind, .string vc.attr, .slice vc.qi vc.ni vc.ci, .slice vc.qw vc.nw vc.cw, .int .i64 vc.lo, .int .i64 vc.hi, .int .i64 vc.op, .slice vc.qk vc.nk vc.ck] 31))))) (hide (((((Below.refl W.heap.size W).alloc (Nat.le_refl _) (.cells #[.int .i64 va.kind, .string va.attr, .slice va.qi va.ni va.ci, .slice va.qw va.nw va.cw, .int .i64 va.lo, .int .i64 va.hi, .int .i64 va.op, .slice va.qk va.nk va.ck, .int .i64 vc.kind, .string vc.attr, .slice vc.qi vc.ni vc.ci, .slice vc.qw vc.nw vc.cw, .int .i64 vc.lo, .int .i64 vc.hi, .int .i64 vc.op, .slice vc.qk vc.nk vc.ck] 31))).block _ (heap_lt (unhide H11))).trans (unhide H11))) (hide (box_nw _ _))) (by kernel_rfl) rfl
    exact AllReadyH.nil
    )
  have st8 : Hid (∀ (W : World) (M3 : Nat) (v4 : Nv) (M5 : Nat) (v6 : Nv) (M15 : Nat), Hid (Below U.heap.size U W) → Hid (W.heap[M3]? = some (.cells #[.int .i64 vb.kind, .string vb.attr, .slice vb.qi vb.ni vb.ci, .slice vb.qw vb.nw vb.cw, .int .i64 vb.lo, .int .i64 vb.hi, .int .i64 vb.op, .slice vb.qk vb.nk vb.ck, .int .i64 vc.kind, .string vc.attr, .slice vc.qi vc.ni vc.ci, .slice vc.qw vc.nw vc.cw, .int .i64 vc.lo, .int .i64 vc.hi, .int .i64 vc.op, .slice vc.qk vc.nk vc.ck] 31 (0, 0))) → Hid (NdIn W v4 (joinT 4 [b, c])) → Hid (W.heap[M5]? = some (.cells #[.int .i64 va.kind, .string va.attr, .slice va.qi va.ni va.ci, .slice va.qw va.nw va.cw, .int .i64 va.lo, .int .i64 va.hi, .int .i64 va.op, .slice va.qk va.nk va.ck, .int .i64 v4.kind, .string v4.attr, .slice v4.qi v4.ni v4.ci, .slice v4.qw v4.nw v4.cw, .int .i64 v4.lo, .int .i64 v4.hi, .int .i64 v4.op, .slice v4.qk v4.nk v4.ck] 31 (0, 0))) → Hid (NdIn W v6 (joinT 3 [a, (joinT 4 [b, c])])) → Hid (W.heap[M15]? = some (.cells #[.int .i64 va.kind, .string va.attr, .slice va.qi va.ni va.ci, .slice va.qw va.nw va.cw, .int .i64 va.lo, .int .i64 va.hi, .int .i64 va.op, .slice va.qk va.nk va.ck, .int .i64 vc.kind, .string vc.attr, .slice vc.qi vc.ni vc.ci, .slice vc.qw vc.nw vc.cw, .int .i64 vc.lo, .int .i64 vc.hi, .int .i64 vc.op, .slice vc.qk vc.nk vc.ck] 31 (0, 0))) → F 27 #[true, true, true, true, true, true, true, true, true, true, true, false, false, true, true, true, false, false, false, true, false, false, false, false, false, false, false, false, false, false, false, false, false, false, false, false, false, false, false, false, false, false] (Act.mk #[s0, s1, s2, .slice qe ev.length ce, .pointer (some ⟨A, 0, none⟩), .pointer (some ⟨B, 0, none⟩), .pointer (some ⟨C, 0, none⟩), s7, s8, .bool x, .bool y, .bool z, .bool (x && y), .bool (x || y), s14, s15, s16, s17, s18, s19, s20, s21, s22, s23, s24, s25, s26, s27, s28, s29, s30, s31, s32, s33, s34, s35, s36, s37, s38, s39, s40, s41, s42, s43, s44, s45, s46, s47, s48, s49, s50, s51, s52, s53, s54, s55, s56, s57, s58, s59, s60, s61, s62, s63, s64, s65, s66, s67, s68, s69, s70, s71, s72, s73, s74, s75, s76, s77, s78, s79, s80, s81, s82, s83, s84, s85, s86, s87, s88, s89, s90, s91, s92, s93, s94, s95, s96, s97, s98, s99, s100, s101, s102, s103, s104, s105, s106, s107, s108, s109, s110, s111, s112, s113, s114, .agg #[.int .i64 va.kind, .string va.attr, .slice va.qi va.ni va.ci, .slice va.qw va.nw va.cw, .int .i64 va.lo, .int .i64 va.hi, .int .i64 va.op, .slice va.qk va.nk va.ck], .agg #[.int .i64 vb.kind, .string vb.attr, .slice vb.qi vb.ni vb.ci, .slice vb.qw vb.nw vb.cw, .int .i64 vb.lo, .int .i64 vb.hi, .int .i64 vb.op, .slice vb.qk vb.nk vb.ck], .agg #[.int .i64 vc.kind, .string vc.attr, .slice vc.qi vc.ni vc.ci, .slice vc.qw vc.nw vc.cw, .int .i64 vc.lo, .int .i64 vc.hi, .int .i64 vc.op, .slice vc.qk vc.nk vc.ck], .slice (some ⟨M3, 0, none⟩) 2 2, .agg #[.int .i64 v4.kind, .string v4.attr, .slice v4.qi v4.ni v4.ci, .slice v4.qw v4.nw v4.cw, .int .i64 v4.lo, .int .i64 v4.hi, .int .i64 v4.op, .slice v4.qk v4.nk v4.ck], .slice (some ⟨M5, 0, none⟩) 2 2, .agg #[.int .i64 v6.kind, .string v6.attr, .slice v6.qi v6.ni v6.ci, .slice v6.qw v6.nw v6.cw, .int .i64 v6.lo, .int .i64 v6.hi, .int .i64 v6.op, .slice v6.qk v6.nk v6.ck], .slice qe ev.length ce, .bool (x && (y || z)), .agg #[.int .i64 va.kind, .string va.attr, .slice va.qi va.ni va.ci, .slice va.qw va.nw va.cw, .int .i64 va.lo, .int .i64 va.hi, .int .i64 va.op, .slice va.qk va.nk va.ck], .agg #[.int .i64 vb.kind, .string vb.attr, .slice vb.qi vb.ni vb.ci, .slice vb.qw vb.nw vb.cw, .int .i64 vb.lo, .int .i64 vb.hi, .int .i64 vb.op, .slice vb.qk vb.nk vb.ck], s126, s127, .agg #[.int .i64 va.kind, .string va.attr, .slice va.qi va.ni va.ci, .slice va.qw va.nw va.cw, .int .i64 va.lo, .int .i64 va.hi, .int .i64 va.op, .slice va.qk va.nk va.ck], .agg #[.int .i64 vc.kind, .string vc.attr, .slice vc.qi vc.ni vc.ci, .slice vc.qw vc.nw vc.cw, .int .i64 vc.lo, .int .i64 vc.hi, .int .i64 vc.op, .slice vc.qk vc.nk vc.ck], .slice (some ⟨M15, 0, none⟩) 2 2, s131, s132, s133, .slice qe ev.length ce, s135, s136, s137, s138, s139, s140, s141, s142, s143, s144, s145, s146, s147, s148, s149, s150, s151, s152, s153, s154, s155] d) W) := hide (by
    intro W M3 v4 M5 v6 M15 R H3 F4 H5 F6 H15
    refine Eq.mpr (hF _ _ _ _) ?_
    have hHeld := KS W (unhide R)
    refine wpAnyH_ready (rs := [11]) (by kernel_rfl) (by simp) ?_
    refine AllReadyH.cons (o := { dst := some 126, op := Op.buildSlice 22 2 #[(0, Operand.tmp 124), (1, Operand.tmp 125)], type := 22, pos := "law.go:63", after := #[{ on := 9, ground := Ground.data }, { on := 10, ground := Ground.data }], guard := none }) rfl (fun K hK => ?_) ?_
    · go_simp
      refine hK.out _ _ (KS _ ((unhide R).alloc (unhide R).size _)) (fun hHeld => ?_)
      clear hK K
      refine Eq.mp (hF _ _ _ _) ?_
      exact dp_to (unhide st6 (World.alloc W (.cells #[.int .i64 va.kind, .string va.attr, .slice va.qi va.ni va.ci, .slice va.qw va.nw va.cw, .int .i64 va.lo, .int .i64 va.hi, .int .i64 va.op, .slice va.qk va.nk va.ck, .int .i64 vb.kind, .string vb.attr, .slice vb.qi vb.ni vb.ci, .slice vb.qw vb.nw vb.cw, .int .i64 vb.lo, .int .i64 vb.hi, .int .i64 vb.op, .slice vb.qk vb.nk vb.ck] 31)) M3 v4 M5 v6 W.heap.size M15 (hide ((unhide R).alloc (unhide R).size _)) (hide (((((Below.refl W.heap.size W).alloc (Nat.le_refl _) (.cells #[.int .i64 va.kind, .string va.attr, .slice va.qi va.ni va.ci, .slice va.qw va.nw va.cw, .int .i64 va.lo, .int .i64 va.hi, .int .i64 va.op, .slice va.qk va.nk va.ck, .int .i64 vb.kind, .string vb.attr, .slice vb.qi vb.ni vb.ci, .slice vb.qw vb.nw vb.cw, .int .i64 vb.lo, .int .i64 vb.hi, .int .i64 vb.op, .slice vb.qk vb.nk vb.ck] 31))).block _ (heap_lt (unhide H3))).trans (unhide H3))) (hide ((unhide F4).keep (((Below.refl W.heap.size W).alloc (Nat.le_refl _) (.cells #[.int .i64 va.kind, .string va.attr, .slice va.qi va.ni va.ci, .slice va.qw va.nw va.cw, .int .i64 va.lo, .int .i64 va.hi, .int .i64 va.op, .slice va.qk va.nk va.ck, .int .i64 vb.kind, .string vb.attr, .slice vb.qi vb.ni vb.ci, .slice vb.qw vb.nw vb.cw, .int .i64 vb.lo, .int .i64 vb.hi, .int .i64 vb.op, .slice vb.qk vb.nk vb.ck] 31))))) (hide (((((Below.refl W.heap.size W).alloc (Nat.le_refl _) (.cells #[.int .i64 va.kind, .string va.attr, .slice va.qi va.ni va.ci, .slice va.qw va.nw va.cw, .int .i64 va.lo, .int .i64 va.hi, .int .i64 va.op, .slice va.qk va.nk va.ck, .int .i64 vb.kind, .string vb.attr, .slice vb.qi vb.ni vb.ci, .slice vb.qw vb.nw vb.cw, .int .i64 vb.lo, .int .i64 vb.hi, .int .i64 vb.op, .slice vb.qk vb.nk vb.ck] 31))).block _ (heap_lt (unhide H5))).trans (unhide H5))) (hide ((unhide F6).keep (((Below.refl W.heap.size W).alloc (Nat.le_refl _) (.cells #[.int .i64 va.kind, .string va.attr, .slice va.qi va.ni va.ci, .slice va.qw va.nw va.cw, .int .i64 va.lo, .int .i64 va.hi, .int .i64 va.op, .slice va.qk va.nk va.ck, .int .i64 vb.kind, .string vb.attr, .slice vb.qi vb.ni vb.ci, .slice vb.qw vb.nw vb.cw, .int .i64 vb.lo, .int .i64 vb.hi, .int .i64 vb.op, .slice vb.qk vb.nk vb.ck] 31))))) (hide (box_nw _ _)) (hide (((((Below.refl W.heap.size W).alloc (Nat.le_refl _) (.cells #[.int .i64 va.kind, .string va.attr, .slice va.qi va.ni va.ci, .slice va.qw va.nw va.cw, .int .i64 va.lo, .int .i64 va.hi, .int .i64 va.op, .slice va.qk va.nk va.ck, .int .i64 vb.kind, .string vb.attr, .slice vb.qi vb.ni vb.ci, .slice vb.qw vb.nw vb.cw, .int .i64 vb.lo, .int .i64 vb.hi, .int .i64 vb.op, .slice vb.qk vb.nk vb.ck] 31))).block _ (heap_lt (unhide H15))).trans (unhide H15)))) (by kernel_rfl) rfl
    exact AllReadyH.nil
    )
  have st9 : Hid (∀ (W : World) (M3 : Nat) (v4 : Nv) (M5 : Nat) (v6 : Nv), Hid (Below U.heap.size U W) → Hid (W.heap[M3]? = some (.cells #[.int .i64 vb.kind, .string vb.attr, .slice vb.qi vb.ni vb.ci, .slice vb.qw vb.nw vb.cw, .int .i64 vb.lo, .int .i64 vb.hi, .int .i64 vb.op, .slice vb.qk vb.nk vb.ck, .int .i64 vc.kind, .string vc.attr, .slice vc.qi vc.ni vc.ci, .slice vc.qw vc.nw vc.cw, .int .i64 vc.lo, .int .i64 vc.hi, .int .i64 vc.op, .slice vc.qk vc.nk vc.ck] 31 (0, 0))) → Hid (NdIn W v4 (joinT 4 [b, c])) → Hid (W.heap[M5]? = some (.cells #[.int .i64 va.kind, .string va.attr, .slice va.qi va.ni va.ci, .slice va.qw va.nw va.cw, .int .i64 va.lo, .int .i64 va.hi, .int .i64 va.op, .slice va.qk va.nk va.ck, .int .i64 v4.kind, .string v4.attr, .slice v4.qi v4.ni v4.ci, .slice v4.qw v4.nw v4.cw, .int .i64 v4.lo, .int .i64 v4.hi, .int .i64 v4.op, .slice v4.qk v4.nk v4.ck] 31 (0, 0))) → Hid (NdIn W v6 (joinT 3 [a, (joinT 4 [b, c])])) → F 28 #[true, true, true, true, true, true, true, true, true, true, true, false, false, true, true, false, false, false, false, true, false, false, false, false, false, false, false, false, false, false, false, false, false, false, false, false, false, false, false, false, false, false] (Act.mk #[s0, s1, s2, .slice qe ev.length ce, .pointer (some ⟨A, 0, none⟩), .pointer (some ⟨B, 0, none⟩), .pointer (some ⟨C, 0, none⟩), s7, s8, .bool x, .bool y, .bool z, .bool (x && y), .bool (x || y), s14, s15, s16, s17, s18, s19, s20, s21, s22, s23, s24, s25, s26, s27, s28, s29, s30, s31, s32, s33, s34, s35, s36, s37, s38, s39, s40, s41, s42, s43, s44, s45, s46, s47, s48, s49, s50, s51, s52, s53, s54, s55, s56, s57, s58, s59, s60, s61, s62, s63, s64, s65, s66, s67, s68, s69, s70, s71, s72, s73, s74, s75, s76, s77, s78, s79, s80, s81, s82, s83, s84, s85, s86, s87, s88, s89, s90, s91, s92, s93, s94, s95, s96, s97, s98, s99, s100, s101, s102, s103, s104, s105, s106, s107, s108, s109, s110, s111, s112, s113, s114, .agg #[.int .i64 va.kind, .string va.attr, .slice va.qi va.ni va.ci, .slice va.qw va.nw va.cw, .int .i64 va.lo, .int .i64 va.hi, .int .i64 va.op, .slice va.qk va.nk va.ck], .agg #[.int .i64 vb.kind, .string vb.attr, .slice vb.qi vb.ni vb.ci, .slice vb.qw vb.nw vb.cw, .int .i64 vb.lo, .int .i64 vb.hi, .int .i64 vb.op, .slice vb.qk vb.nk vb.ck], .agg #[.int .i64 vc.kind, .string vc.attr, .slice vc.qi vc.ni vc.ci, .slice vc.qw vc.nw vc.cw, .int .i64 vc.lo, .int .i64 vc.hi, .int .i64 vc.op, .slice vc.qk vc.nk vc.ck], .slice (some ⟨M3, 0, none⟩) 2 2, .agg #[.int .i64 v4.kind, .string v4.attr, .slice v4.qi v4.ni v4.ci, .slice v4.qw v4.nw v4.cw, .int .i64 v4.lo, .int .i64 v4.hi, .int .i64 v4.op, .slice v4.qk v4.nk v4.ck], .slice (some ⟨M5, 0, none⟩) 2 2, .agg #[.int .i64 v6.kind, .string v6.attr, .slice v6.qi v6.ni v6.ci, .slice v6.qw v6.nw v6.cw, .int .i64 v6.lo, .int .i64 v6.hi, .int .i64 v6.op, .slice v6.qk v6.nk v6.ck], .slice qe ev.length ce, .bool (x && (y || z)), .agg #[.int .i64 va.kind, .string va.attr, .slice va.qi va.ni va.ci, .slice va.qw va.nw va.cw, .int .i64 va.lo, .int .i64 va.hi, .int .i64 va.op, .slice va.qk va.nk va.ck], .agg #[.int .i64 vb.kind, .string vb.attr, .slice vb.qi vb.ni vb.ci, .slice vb.qw vb.nw vb.cw, .int .i64 vb.lo, .int .i64 vb.hi, .int .i64 vb.op, .slice vb.qk vb.nk vb.ck], s126, s127, .agg #[.int .i64 va.kind, .string va.attr, .slice va.qi va.ni va.ci, .slice va.qw va.nw va.cw, .int .i64 va.lo, .int .i64 va.hi, .int .i64 va.op, .slice va.qk va.nk va.ck], .agg #[.int .i64 vc.kind, .string vc.attr, .slice vc.qi vc.ni vc.ci, .slice vc.qw vc.nw vc.cw, .int .i64 vc.lo, .int .i64 vc.hi, .int .i64 vc.op, .slice vc.qk vc.nk vc.ck], s130, s131, s132, s133, .slice qe ev.length ce, s135, s136, s137, s138, s139, s140, s141, s142, s143, s144, s145, s146, s147, s148, s149, s150, s151, s152, s153, s154, s155] d) W) := hide (by
    intro W M3 v4 M5 v6 R H3 F4 H5 F6
    refine Eq.mpr (hF _ _ _ _) ?_
    have hHeld := KS W (unhide R)
    refine wpAnyH_ready (rs := [11, 15]) (by kernel_rfl) (by simp) ?_
    refine AllReadyH.cons (o := { dst := some 126, op := Op.buildSlice 22 2 #[(0, Operand.tmp 124), (1, Operand.tmp 125)], type := 22, pos := "law.go:63", after := #[{ on := 9, ground := Ground.data }, { on := 10, ground := Ground.data }], guard := none }) rfl (fun K hK => ?_) ?_
    · go_simp
      refine hK.out _ _ (KS _ ((unhide R).alloc (unhide R).size _)) (fun hHeld => ?_)
      clear hK K
      refine Eq.mp (hF _ _ _ _) ?_
      exact dp_to (unhide st7 (World.alloc W (.cells #[.int .i64 va.kind, .string va.attr, .slice va.qi va.ni va.ci, .slice va.qw va.nw va.cw, .int .i64 va.lo, .int .i64 va.hi, .int .i64 va.op, .slice va.qk va.nk va.ck, .int .i64 vb.kind, .string vb.attr, .slice vb.qi vb.ni vb.ci, .slice vb.qw vb.nw vb.cw, .int .i64 vb.lo, .int .i64 vb.hi, .int .i64 vb.op, .slice vb.qk vb.nk vb.ck] 31)) M3 v4 M5 v6 W.heap.size (hide ((unhide R).alloc (unhide R).size _)) (hide (((((Below.refl W.heap.size W).alloc (Nat.le_refl _) (.cells #[.int .i64 va.kind, .string va.attr, .slice va.qi va.ni va.ci, .slice va.qw va.nw va.cw, .int .i64 va.lo, .int .i64 va.hi, .int .i64 va.op, .slice va.qk va.nk va.ck, .int .i64 vb.kind, .string vb.attr, .slice vb.qi vb.ni vb.ci, .slice vb.qw vb.nw vb.cw, .int .i64 vb.lo, .int .i64 vb.hi, .int .i64 vb.op, .slice vb.qk vb.nk vb.ck] 31))).block _ (heap_lt (unhide H3))).trans (unhide H3))) (hide ((unhide F4).keep (((Below.refl W.heap.size W).alloc (Nat.le_refl _) (.cells #[.int .i64 va.kind, .string va.attr, .slice va.qi va.ni va.ci, .slice va.qw va.nw va.cw, .int .i64 va.lo, .int .i64 va.hi, .int .i64 va.op, .slice va.qk va.nk va.ck, .int .i64 vb.kind, .string vb.attr, .slice vb.qi vb.ni vb.ci, .slice vb.qw vb.nw vb.cw, .int .i64 vb.lo, .int .i64 vb.hi, .int .i64 vb.op, .slice vb.qk vb.nk vb.ck] 31))))) (hide (((((Below.refl W.heap.size W).alloc (Nat.le_refl _) (.cells #[.int .i64 va.kind, .string va.attr, .slice va.qi va.ni va.ci, .slice va.qw va.nw va.cw, .int .i64 va.lo, .int .i64 va.hi, .int .i64 va.op, .slice va.qk va.nk va.ck, .int .i64 vb.kind, .string vb.attr, .slice vb.qi vb.ni vb.ci, .slice vb.qw vb.nw vb.cw, .int .i64 vb.lo, .int .i64 vb.hi, .int .i64 vb.op, .slice vb.qk vb.nk vb.ck] 31))).block _ (heap_lt (unhide H5))).trans (unhide H5))) (hide ((unhide F6).keep (((Below.refl W.heap.size W).alloc (Nat.le_refl _) (.cells #[.int .i64 va.kind, .string va.attr, .slice va.qi va.ni va.ci, .slice va.qw va.nw va.cw, .int .i64 va.lo, .int .i64 va.hi, .int .i64 va.op, .slice va.qk va.nk va.ck, .int .i64 vb.kind, .string vb.attr, .slice vb.qi vb.ni vb.ci, .slice vb.qw vb.nw vb.cw, .int .i64 vb.lo, .int .i64 vb.hi, .int .i64 vb.op, .slice vb.qk vb.nk vb.ck] 31))))) (hide (box_nw _ _))) (by kernel_rfl) rfl
    refine AllReadyH.cons (o := { dst := some 130, op := Op.buildSlice 22 2 #[(0, Operand.tmp 128), (1, Operand.tmp 129)], type := 22, pos := "law.go:63", after := #[{ on := 13, ground := Ground.data }, { on := 14, ground := Ground.data }], guard := none }) rfl (fun K hK => ?_) ?_
    · go_simp
      refine hK.out _ _ (KS _ ((unhide R).alloc (unhide R).size _)) (fun hHeld => ?_)
      clear hK K
      refine Eq.mp (hF _ _ _ _) ?_
      exact dp_to (unhide st8 (World.alloc W (.cells #[.int .i64 va.kind, .string va.attr, .slice va.qi va.ni va.ci, .slice va.qw va.nw va.cw, .int .i64 va.lo, .int .i64 va.hi, .int .i64 va.op, .slice va.qk va.nk va.ck, .int .i64 vc.kind, .string vc.attr, .slice vc.qi vc.ni vc.ci, .slice vc.qw vc.nw vc.cw, .int .i64 vc.lo, .int .i64 vc.hi, .int .i64 vc.op, .slice vc.qk vc.nk vc.ck] 31)) M3 v4 M5 v6 W.heap.size (hide ((unhide R).alloc (unhide R).size _)) (hide (((((Below.refl W.heap.size W).alloc (Nat.le_refl _) (.cells #[.int .i64 va.kind, .string va.attr, .slice va.qi va.ni va.ci, .slice va.qw va.nw va.cw, .int .i64 va.lo, .int .i64 va.hi, .int .i64 va.op, .slice va.qk va.nk va.ck, .int .i64 vc.kind, .string vc.attr, .slice vc.qi vc.ni vc.ci, .slice vc.qw vc.nw vc.cw, .int .i64 vc.lo, .int .i64 vc.hi, .int .i64 vc.op, .slice vc.qk vc.nk vc.ck] 31))).block _ (heap_lt (unhide H3))).trans (unhide H3))) (hide ((unhide F4).keep (((Below.refl W.heap.size W).alloc (Nat.le_refl _) (.cells #[.int .i64 va.kind, .string va.attr, .slice va.qi va.ni va.ci, .slice va.qw va.nw va.cw, .int .i64 va.lo, .int .i64 va.hi, .int .i64 va.op, .slice va.qk va.nk va.ck, .int .i64 vc.kind, .string vc.attr, .slice vc.qi vc.ni vc.ci, .slice vc.qw vc.nw vc.cw, .int .i64 vc.lo, .int .i64 vc.hi, .int .i64 vc.op, .slice vc.qk vc.nk vc.ck] 31))))) (hide (((((Below.refl W.heap.size W).alloc (Nat.le_refl _) (.cells #[.int .i64 va.kind, .string va.attr, .slice va.qi va.ni va.ci, .slice va.qw va.nw va.cw, .int .i64 va.lo, .int .i64 va.hi, .int .i64 va.op, .slice va.qk va.nk va.ck, .int .i64 vc.kind, .string vc.attr, .slice vc.qi vc.ni vc.ci, .slice vc.qw vc.nw vc.cw, .int .i64 vc.lo, .int .i64 vc.hi, .int .i64 vc.op, .slice vc.qk vc.nk vc.ck] 31))).block _ (heap_lt (unhide H5))).trans (unhide H5))) (hide ((unhide F6).keep (((Below.refl W.heap.size W).alloc (Nat.le_refl _) (.cells #[.int .i64 va.kind, .string va.attr, .slice va.qi va.ni va.ci, .slice va.qw va.nw va.cw, .int .i64 va.lo, .int .i64 va.hi, .int .i64 va.op, .slice va.qk va.nk va.ck, .int .i64 vc.kind, .string vc.attr, .slice vc.qi vc.ni vc.ci, .slice vc.qw vc.nw vc.cw, .int .i64 vc.lo, .int .i64 vc.hi, .int .i64 vc.op, .slice vc.qk vc.nk vc.ck] 31))))) (hide (box_nw _ _))) (by kernel_rfl) rfl
    exact AllReadyH.nil
    )
  have st10 : Hid (∀ (W : World) (M3 : Nat) (v4 : Nv) (M5 : Nat) (v6 : Nv) (M11 : Nat) (M15 : Nat), Hid (Below U.heap.size U W) → Hid (W.heap[M3]? = some (.cells #[.int .i64 vb.kind, .string vb.attr, .slice vb.qi vb.ni vb.ci, .slice vb.qw vb.nw vb.cw, .int .i64 vb.lo, .int .i64 vb.hi, .int .i64 vb.op, .slice vb.qk vb.nk vb.ck, .int .i64 vc.kind, .string vc.attr, .slice vc.qi vc.ni vc.ci, .slice vc.qw vc.nw vc.cw, .int .i64 vc.lo, .int .i64 vc.hi, .int .i64 vc.op, .slice vc.qk vc.nk vc.ck] 31 (0, 0))) → Hid (NdIn W v4 (joinT 4 [b, c])) → Hid (W.heap[M5]? = some (.cells #[.int .i64 va.kind, .string va.attr, .slice va.qi va.ni va.ci, .slice va.qw va.nw va.cw, .int .i64 va.lo, .int .i64 va.hi, .int .i64 va.op, .slice va.qk va.nk va.ck, .int .i64 v4.kind, .string v4.attr, .slice v4.qi v4.ni v4.ci, .slice v4.qw v4.nw v4.cw, .int .i64 v4.lo, .int .i64 v4.hi, .int .i64 v4.op, .slice v4.qk v4.nk v4.ck] 31 (0, 0))) → Hid (NdIn W v6 (joinT 3 [a, (joinT 4 [b, c])])) → Hid (W.heap[M11]? = some (.cells #[.int .i64 va.kind, .string va.attr, .slice va.qi va.ni va.ci, .slice va.qw va.nw va.cw, .int .i64 va.lo, .int .i64 va.hi, .int .i64 va.op, .slice va.qk va.nk va.ck, .int .i64 vb.kind, .string vb.attr, .slice vb.qi vb.ni vb.ci, .slice vb.qw vb.nw vb.cw, .int .i64 vb.lo, .int .i64 vb.hi, .int .i64 vb.op, .slice vb.qk vb.nk vb.ck] 31 (0, 0))) → Hid (W.heap[M15]? = some (.cells #[.int .i64 va.kind, .string va.attr, .slice va.qi va.ni va.ci, .slice va.qw va.nw va.cw, .int .i64 va.lo, .int .i64 va.hi, .int .i64 va.op, .slice va.qk va.nk va.ck, .int .i64 vc.kind, .string vc.attr, .slice vc.qi vc.ni vc.ci, .slice vc.qw vc.nw vc.cw, .int .i64 vc.lo, .int .i64 vc.hi, .int .i64 vc.op, .slice vc.qk vc.nk vc.ck] 31 (0, 0))) → F 27 #[true, true, true, true, true, true, true, true, false, true, true, true, false, true, true, true, false, false, false, true, false, false, false, false, false, false, false, false, false, false, false, false, false, false, false, false, false, false, false, false, false, false] (Act.mk #[s0, s1, s2, .slice qe ev.length ce, .pointer (some ⟨A, 0, none⟩), .pointer (some ⟨B, 0, none⟩), .pointer (some ⟨C, 0, none⟩), s7, s8, .bool x, .bool y, .bool z, .bool (x && y), .bool (x || y), s14, s15, s16, s17, s18, s19, s20, s21, s22, s23, s24, s25, s26, s27, s28, s29, s30, s31, s32, s33, s34, s35, s36, s37, s38, s39, s40, s41, s42, s43, s44, s45, s46, s47, s48, s49, s50, s51, s52, s53, s54, s55, s56, s57, s58, s59, s60, s61, s62, s63, s64, s65, s66, s67, s68, s69, s70, s71, s72, s73, s74, s75, s76, s77, s78, s79, s80, s81, s82, s83, s84, s85, s86, s87, s88, s89, s90, s91, s92, s93, s94, s95, s96, s97, s98, s99, s100, s101, s102, s103, s104, s105, s106, s107, s108, s109, s110, s111, s112, s113, s114, .agg #[.int .i64 va.kind, .string va.attr, .slice va.qi va.ni va.ci, .slice va.qw va.nw va.cw, .int .i64 va.lo, .int .i64 va.hi, .int .i64 va.op, .slice va.qk va.nk va.ck], .agg #[.int .i64 vb.kind, .string vb.attr, .slice vb.qi vb.ni vb.ci, .slice vb.qw vb.nw vb.cw, .int .i64 vb.lo, .int .i64 vb.hi, .int .i64 vb.op, .slice vb.qk vb.nk vb.ck], .agg #[.int .i64 vc.kind, .string vc.attr, .slice vc.qi vc.ni vc.ci, .slice vc.qw vc.nw vc.cw, .int .i64 vc.lo, .int .i64 vc.hi, .int .i64 vc.op, .slice vc.qk vc.nk vc.ck], .slice (some ⟨M3, 0, none⟩) 2 2, .agg #[.int .i64 v4.kind, .string v4.attr, .slice v4.qi v4.ni v4.ci, .slice v4.qw v4.nw v4.cw, .int .i64 v4.lo, .int .i64 v4.hi, .int .i64 v4.op, .slice v4.qk v4.nk v4.ck], .slice (some ⟨M5, 0, none⟩) 2 2, .agg #[.int .i64 v6.kind, .string v6.attr, .slice v6.qi v6.ni v6.ci, .slice v6.qw v6.nw v6.cw, .int .i64 v6.lo, .int .i64 v6.hi, .int .i64 v6.op, .slice v6.qk v6.nk v6.ck], .slice qe ev.length ce, s123, .agg #[.int .i64 va.kind, .string va.attr, .slice va.qi va.ni va.ci, .slice va.qw va.nw va.cw, .int .i64 va.lo, .int .i64 va.hi, .int .i64 va.op, .slice va.qk va.nk va.ck], .agg #[.int .i64 vb.kind, .string vb.attr, .slice vb.qi vb.ni vb.ci, .slice vb.qw vb.nw vb.cw, .int .i64 vb.lo, .int .i64 vb.hi, .int .i64 vb.op, .slice vb.qk vb.nk vb.ck], .slice (some ⟨M11, 0, none⟩) 2 2, s127, .agg #[.int .i64 va.kind, .string va.attr, .slice va.qi va.ni va.ci, .slice va.qw va.nw va.cw, .int .i64 va.lo, .int .i64 va.hi, .int .i64 va.op, .slice va.qk va.nk va.ck], .agg #[.int .i64 vc.kind, .string vc.attr, .slice vc.qi vc.ni vc.ci, .slice vc.qw vc.nw vc.cw, .int .i64 vc.lo, .int .i64 vc.hi, .int .i64 vc.op, .slice vc.qk vc.nk vc.ck], .slice (some ⟨M15, 0, none⟩) 2 2, s131, s132, s133, .slice qe ev.length ce, s135, s136, s137, s138, s139, s140, s141, s142, s143, s144, s145, s146, s147, s148, s149, s150, s151, s152, s153, s154, s155] d) W) := hide (by
    intro W M3 v4 M5 v6 M11 M15 R H3 F4 H5 F6 H11 H15
    refine Eq.mpr (hF _ _ _ _) ?_
    have hHeld := KS W (unhide R)
    refine wpAnyH_ready (rs := [8]) (by kernel_rfl) (by simp) ?_
    refine AllReadyH.cons (o := { dst := some 123, op := Op.call { callee := Callee.value (Operand.func 8), args := #[Operand.tmp 121, Operand.tmp 122], argTypes := #[31, 23] }, type := 4, pos := "law.go:63", after := #[{ on := 6, ground := Ground.data }, { on := 7, ground := Ground.data }, { on := 6, ground := Ground.chain }], guard := none }) rfl (fun K hK => ?_) ?_
    · go_simp
      refine (cEv (joinT 3 [a, (joinT 4 [b, c])]) v6 qe ce ev _ (x && (y || z)) (unhide F6) ((unhide HE).below (unhide R)) (ck2 3 (Or.inl rfl) a (joinT 4 [b, c]) (unhide HCa) (ck2 4 (Or.inr rfl) b c (unhide HCb) (unhide HCc))) ((tA2 ev a (joinT 4 [b, c])).trans (congr (congrArg and (unhide HXa)) ((tO2 ev b c).trans (congr (congrArg or (unhide HXb)) (unhide HXc))))) (by have := unhide HW; have := w2 3 a (joinT 4 [b, c]); have := w2 4 b c; omega) (unhide HL)).mono ?_
      rintro e W1 ⟨rfl, bb⟩
      refine hK.out _ _ (KS _ (below_sub (unhide R) bb)) (fun hHeld => ?_)
      clear hK K
      refine Eq.mp (hF _ _ _ _) ?_
      exact dp_to (unhide st6 W1 M3 v4 M5 v6 M11 M15 (hide (below_sub (unhide R) bb)) (hide (((bb).block _ (heap_lt (unhide H3))).trans (unhide H3))) (hide ((unhide F4).keep (bb))) (hide (((bb).block _ (heap_lt (unhide H5))).trans (unhide H5))) (hide ((unhide F6).keep (bb))) (hide (((bb).block _ (heap_lt (unhide H11))).trans (unhide H11))) (hide (((bb).block _ (heap_lt (unhide H15))).trans (unhide H15)))) (by kernel_rfl) rfl
    exact AllReadyH.nil
    )
  have st11 : Hid (∀ (W : World) (M3 : Nat) (v4 : Nv) (M5 : Nat) (v6 : Nv) (M11 : Nat), Hid (Below U.heap.size U W) → Hid (W.heap[M3]? = some (.cells #[.int .i64 vb.kind, .string vb.attr, .slice vb.qi vb.ni vb.ci, .slice vb.qw vb.nw vb.cw, .int .i64 vb.lo, .int .i64 vb.hi, .int .i64 vb.op, .slice vb.qk vb.nk vb.ck, .int .i64 vc.kind, .string vc.attr, .slice vc.qi vc.ni vc.ci, .slice vc.qw vc.nw vc.cw, .int .i64 vc.lo, .int .i64 vc.hi, .int .i64 vc.op, .slice vc.qk vc.nk vc.ck] 31 (0, 0))) → Hid (NdIn W v4 (joinT 4 [b, c])) → Hid (W.heap[M5]? = some (.cells #[.int .i64 va.kind, .string va.attr, .slice va.qi va.ni va.ci, .slice va.qw va.nw va.cw, .int .i64 va.lo, .int .i64 va.hi, .int .i64 va.op, .slice va.qk va.nk va.ck, .int .i64 v4.kind, .string v4.attr, .slice v4.qi v4.ni v4.ci, .slice v4.qw v4.nw v4.cw, .int .i64 v4.lo, .int .i64 v4.hi, .int .i64 v4.op, .slice v4.qk v4.nk v4.ck] 31 (0, 0))) → Hid (NdIn W v6 (joinT 3 [a, (joinT 4 [b, c])])) → Hid (W.heap[M11]? = some (.cells #[.int .i64 va.kind, .string va.attr, .slice va.qi va.ni va.ci, .slice va.qw va.nw va.cw, .int .i64 va.lo, .int .i64 va.hi, .int .i64 va.op, .slice va.qk va.nk va.ck, .int .i64 vb.kind, .string vb.attr, .slice vb.qi vb.ni vb.ci, .slice vb.qw vb.nw vb.cw, .int .i64 vb.lo, .int .i64 vb.hi, .int .i64 vb.op, .slice vb.qk vb.nk vb.ck] 31 (0, 0))) → F 28 #[true, true, true, true, true, true, true, true, false, true, true, true, false, true, true, false, false, false, false, true, false, false, false, false, false, false, false, false, false, false, false, false, false, false, false, false, false, false, false, false, false, false] (Act.mk #[s0, s1, s2, .slice qe ev.length ce, .pointer (some ⟨A, 0, none⟩), .pointer (some ⟨B, 0, none⟩), .pointer (some ⟨C, 0, none⟩), s7, s8, .bool x, .bool y, .bool z, .bool (x && y), .bool (x || y), s14, s15, s16, s17, s18, s19, s20, s21, s22, s23, s24, s25, s26, s27, s28, s29, s30, s31, s32, s33, s34, s35, s36, s37, s38, s39, s40, s41, s42, s43, s44, s45, s46, s47, s48, s49, s50, s51, s52, s53, s54, s55, s56, s57, s58, s59, s60, s61, s62, s63, s64, s65, s66, s67, s68, s69, s70, s71, s72, s73, s74, s75, s76, s77, s78, s79, s80, s81, s82, s83, s84, s85, s86, s87, s88, s89, s90, s91, s92, s93, s94, s95, s96, s97, s98, s99, s100, s101, s102, s103, s104, s105, s106, s107, s108, s109, s110, s111, s112, s113, s114, .agg #[.int .i64 va.kind, .string va.attr, .slice va.qi va.ni va.ci, .slice va.qw va.nw va.cw, .int .i64 va.lo, .int .i64 va.hi, .int .i64 va.op, .slice va.qk va.nk va.ck], .agg #[.int .i64 vb.kind, .string vb.attr, .slice vb.qi vb.ni vb.ci, .slice vb.qw vb.nw vb.cw, .int .i64 vb.lo, .int .i64 vb.hi, .int .i64 vb.op, .slice vb.qk vb.nk vb.ck], .agg #[.int .i64 vc.kind, .string vc.attr, .slice vc.qi vc.ni vc.ci, .slice vc.qw vc.nw vc.cw, .int .i64 vc.lo, .int .i64 vc.hi, .int .i64 vc.op, .slice vc.qk vc.nk vc.ck], .slice (some ⟨M3, 0, none⟩) 2 2, .agg #[.int .i64 v4.kind, .string v4.attr, .slice v4.qi v4.ni v4.ci, .slice v4.qw v4.nw v4.cw, .int .i64 v4.lo, .int .i64 v4.hi, .int .i64 v4.op, .slice v4.qk v4.nk v4.ck], .slice (some ⟨M5, 0, none⟩) 2 2, .agg #[.int .i64 v6.kind, .string v6.attr, .slice v6.qi v6.ni v6.ci, .slice v6.qw v6.nw v6.cw, .int .i64 v6.lo, .int .i64 v6.hi, .int .i64 v6.op, .slice v6.qk v6.nk v6.ck], .slice qe ev.length ce, s123, .agg #[.int .i64 va.kind, .string va.attr, .slice va.qi va.ni va.ci, .slice va.qw va.nw va.cw, .int .i64 va.lo, .int .i64 va.hi, .int .i64 va.op, .slice va.qk va.nk va.ck], .agg #[.int .i64 vb.kind, .string vb.attr, .slice vb.qi vb.ni vb.ci, .slice vb.qw vb.nw vb.cw, .int .i64 vb.lo, .int .i64 vb.hi, .int .i64 vb.op, .slice vb.qk vb.nk vb.ck], .slice (some ⟨M11, 0, none⟩) 2 2, s127, .agg #[.int .i64 va.kind, .string va.attr, .slice va.qi va.ni va.ci, .slice va.qw va.nw va.cw, .int .i64 va.lo, .int .i64 va.hi, .int .i64 va.op, .slice va.qk va.nk va.ck], .agg #[.int .i64 vc.kind, .string vc.attr, .slice vc.qi vc.ni vc.ci, .slice vc.qw vc.nw vc.cw, .int .i64 vc.lo, .int .i64 vc.hi, .int .i64 vc.op, .slice vc.qk vc.nk vc.ck], s130, s131, s132, s133, .slice qe ev.length ce, s135, s136, s137, s138, s139, s140, s141, s142, s143, s144, s145, s146, s147, s148, s149, s150, s151, s152, s153, s154, s155] d) W) := hide (by
    intro W M3 v4 M5 v6 M11 R H3 F4 H5 F6 H11
    refine Eq.mpr (hF _ _ _ _) ?_
    have hHeld := KS W (unhide R)
    refine wpAnyH_ready (rs := [8, 15]) (by kernel_rfl) (by simp) ?_
    refine AllReadyH.cons (o := { dst := some 123, op := Op.call { callee := Callee.value (Operand.func 8), args := #[Operand.tmp 121, Operand.tmp 122], argTypes := #[31, 23] }, type := 4, pos := "law.go:63", after := #[{ on := 6, ground := Ground.data }, { on := 7, ground := Ground.data }, { on := 6, ground := Ground.chain }], guard := none }) rfl (fun K hK => ?_) ?_
    · go_simp
      refine (cEv (joinT 3 [a, (joinT 4 [b, c])]) v6 qe ce ev _ (x && (y || z)) (unhide F6) ((unhide HE).below (unhide R)) (ck2 3 (Or.inl rfl) a (joinT 4 [b, c]) (unhide HCa) (ck2 4 (Or.inr rfl) b c (unhide HCb) (unhide HCc))) ((tA2 ev a (joinT 4 [b, c])).trans (congr (congrArg and (unhide HXa)) ((tO2 ev b c).trans (congr (congrArg or (unhide HXb)) (unhide HXc))))) (by have := unhide HW; have := w2 3 a (joinT 4 [b, c]); have := w2 4 b c; omega) (unhide HL)).mono ?_
      rintro e W1 ⟨rfl, bb⟩
      refine hK.out _ _ (KS _ (below_sub (unhide R) bb)) (fun hHeld => ?_)
      clear hK K
      refine Eq.mp (hF _ _ _ _) ?_
      exact dp_to (unhide st7 W1 M3 v4 M5 v6 M11 (hide (below_sub (unhide R) bb)) (hide (((bb).block _ (heap_lt (unhide H3))).trans (unhide H3))) (hide ((unhide F4).keep (bb))) (hide (((bb).block _ (heap_lt (unhide H5))).trans (unhide H5))) (hide ((unhide F6).keep (bb))) (hide (((bb).block _ (heap_lt (unhide H11))).trans (unhide H11)))) (by kernel_rfl) rfl
    refine AllReadyH.cons (o := { dst := some 130, op := Op.buildSlice 22 2 #[(0, Operand.tmp 128), (1, Operand.tmp 129)], type := 22, pos := "law.go:63", after := #[{ on := 13, ground := Ground.data }, { on := 14, ground := Ground.data }], guard := none }) rfl (fun K hK => ?_) ?_
    · go_simp
      refine hK.out _ _ (KS _ ((unhide R).alloc (unhide R).size _)) (fun hHeld => ?_)
      clear hK K
      refine Eq.mp (hF _ _ _ _) ?_
      exact dp_to (unhide st10 (World.alloc W (.cells #[.int .i64 va.kind, .string va.attr, .slice va.qi va.ni va.ci, .slice va.qw va.nw va.cw, .int .i64 va.lo, .int .i64 va.hi, .int .i64 va.op, .slice va.qk va.nk va.ck, .int .i64 vc.kind, .string vc.attr, .slice vc.qi vc.ni vc.ci, .slice vc.qw vc.nw vc.cw, .int .i64 vc.lo, .int .i64 vc.hi, .int .i64 vc.op, .slice vc.qk vc.nk vc.ck] 31)) M3 v4 M5 v6 M11 W.heap.size (hide ((unhide R).alloc (unhide R).size _)) (hide (((((Below.refl W.heap.size W).alloc (Nat.le_refl _) (.cells #[.int .i64 va.kind, .string va.attr, .slice va.qi va.ni va.ci, .slice va.qw va.nw va.cw, .int .i64 va.lo, .int .i64 va.hi, .int .i64 va.op, .slice va.qk va.nk va.ck, .int .i64 vc.kind, .string vc.attr, .slice vc.qi vc.ni vc.ci, .slice vc.qw vc.nw vc.cw, .int .i64 vc.lo, .int .i64 vc.hi, .int .i64 vc.op, .slice vc.qk vc.nk vc.ck] 31))).block _ (heap_lt (unhide H3))).trans (unhide H3))) (hide ((unhide F4).keep (((Below.refl W.heap.size W).alloc (Nat.le_refl _) (.cells #[.int .i64 va.kind, .string va.attr, .slice va.qi va.ni va.ci, .slice va.qw va.nw va.cw, .int .i64 va.lo, .int .i64 va.hi, .int .i64 va.op, .slice va.qk va.nk va.ck, .int .i64 vc.kind, .string vc.attr, .slice vc.qi vc.ni vc.ci, .slice vc.qw vc.nw vc.cw, .int .i64 vc.lo, .int .i64 vc.hi, .int .i64 vc.op, .slice vc.qk vc.nk vc.ck] 31))))) (hide (((((Below.refl W.heap.size W).alloc (Nat.le_refl _) (.cells #[.int .i64 va.kind, .string va.attr, .slice va.qi va.ni va.ci, .slice va.qw va.nw va.cw, .int .i64 va.lo, .int .i64 va.hi, .int .i64 va.op, .slice va.qk va.nk va.ck, .int .i64 vc.kind, .string vc.attr, .slice vc.qi vc.ni vc.ci, .slice vc.qw vc.nw vc.cw, .int .i64 vc.lo, .int .i64 vc.hi, .int .i64 vc.op, .slice vc.qk vc.nk vc.ck] 31))).block _ (heap_lt (unhide H5))).trans (unhide H5))) (hide ((unhide F6).keep (((Below.refl W.heap.size W).alloc (Nat.le_refl _) (.cells #[.int .i64 va.kind, .string va.attr, .slice va.qi va.ni va.ci, .slice va.qw va.nw va.cw, .int .i64 va.lo, .int .i64 va.hi, .int .i64 va.op, .slice va.qk va.nk va.ck, .int .i64 vc.kind, .string vc.attr, .slice vc.qi vc.ni vc.ci, .slice vc.qw vc.nw vc.cw, .int .i64 vc.lo, .int .i64 vc.hi, .int .i64 vc.op, .slice vc.qk vc.nk vc.ck] 31))))) (hide (((((Below.refl W.heap.size W).alloc (Nat.le_refl _) (.cells #[.int .i64 va.kind, .string va.attr, .slice va.qi va.ni va.ci, .slice va.qw va.nw va.cw, .int .i64 va.lo, .int .i64 va.hi, .int .i64 va.op, .slice va.qk va.nk va.ck, .int .i64 vc.kind, .string vc.attr, .slice vc.qi vc.ni vc.ci, .slice vc.qw vc.nw vc.cw, .int .i64 vc.lo, .int .i64 vc.hi, .int .i64 vc.op, .slice vc.qk vc.nk vc.ck] 31))).block _ (heap_lt (unhide H11))).trans (unhide H11))) (hide (box_nw _ _))) (by kernel_rfl) rfl
    exact AllReadyH.nil
    )
  have st12 : Hid (∀ (W : World) (M3 : Nat) (v4 : Nv) (M5 : Nat) (v6 : Nv) (M15 : Nat), Hid (Below U.heap.size U W) → Hid (W.heap[M3]? = some (.cells #[.int .i64 vb.kind, .string vb.attr, .slice vb.qi vb.ni vb.ci, .slice vb.qw vb.nw vb.cw, .int .i64 vb.lo, .int .i64 vb.hi, .int .i64 vb.op, .slice vb.qk vb.nk vb.ck, .int .i64 vc.kind, .string vc.attr, .slice vc.qi vc.ni vc.ci, .slice vc.qw vc.nw vc.cw, .int .i64 vc.lo, .int .i64 vc.hi, .int .i64 vc.op, .slice vc.qk vc.nk vc.ck] 31 (0, 0))) → Hid (NdIn W v4 (joinT 4 [b, c])) → Hid (W.heap[M5]? = some (.cells #[.int .i64 va.kind, .string va.attr, .slice va.qi va.ni va.ci, .slice va.qw va.nw va.cw, .int .i64 va.lo, .int .i64 va.hi, .int .i64 va.op, .slice va.qk va.nk va.ck, .int .i64 v4.kind, .string v4.attr, .slice v4.qi v4.ni v4.ci, .slice v4.qw v4.nw v4.cw, .int .i64 v4.lo, .int .i64 v4.hi, .int .i64 v4.op, .slice v4.qk v4.nk v4.ck] 31 (0, 0))) → Hid (NdIn W v6 (joinT 3 [a, (joinT 4 [b, c])])) → Hid (W.heap[M15]? = some (.cells #[.int .i64 va.kind, .string va.attr, .slice va.qi va.ni va.ci, .slice va.qw va.nw va.cw, .int .i64 va.lo, .int .i64 va.hi, .int .i64 va.op, .slice va.qk va.nk va.ck, .int .i64 vc.kind, .string vc.attr, .slice vc.qi vc.ni vc.ci, .slice vc.qw vc.nw vc.cw, .int .i64 vc.lo, .int .i64 vc.hi, .int .i64 vc.op, .slice vc.qk vc.nk vc.ck] 31 (0, 0))) → F 28 #[true, true, true, true, true, true, true, true, false, true, true, false, false, true, true, true, false, false, false, true, false, false, false, false, false, false, false, false, false, false, false, false, false, false, false, false, false, false, false, false, false, false] (Act.mk #[s0, s1, s2, .slice qe ev.length ce, .pointer (some ⟨A, 0, none⟩), .pointer (some ⟨B, 0, none⟩), .pointer (some ⟨C, 0, none⟩), s7, s8, .bool x, .bool y, .bool z, .bool (x && y), .bool (x || y), s14, s15, s16, s17, s18, s19, s20, s21, s22, s23, s24, s25, s26, s27, s28, s29, s30, s31, s32, s33, s34, s35, s36, s37, s38, s39, s40, s41, s42, s43, s44, s45, s46, s47, s48, s49, s50, s51, s52, s53, s54, s55, s56, s57, s58, s59, s60, s61, s62, s63, s64, s65, s66, s67, s68, s69, s70, s71, s72, s73, s74, s75, s76, s77, s78, s79, s80, s81, s82, s83, s84, s85, s86, s87, s88, s89, s90, s91, s92, s93, s94, s95, s96, s97, s98, s99, s100, s101, s102, s103, s104, s105, s106, s107, s108, s109, s110, s111, s112, s113, s114, .agg #[.int .i64 va.kind, .string va.attr, .slice va.qi va.ni va.ci, .slice va.qw va.nw va.cw, .int .i64 va.lo, .int .i64 va.hi, .int .i64 va.op, .slice va.qk va.nk va.ck], .agg #[.int .i64 vb.kind, .string vb.attr, .slice vb.qi vb.ni vb.ci, .slice vb.qw vb.nw vb.cw, .int .i64 vb.lo, .int .i64 vb.hi, .int .i64 vb.op, .slice vb.qk vb.nk vb.ck], .agg #[.int .i64 vc.kind, .string vc.attr, .slice vc.qi vc.ni vc.ci, .slice vc.qw vc.nw vc.cw, .int .i64 vc.lo, .int .i64 vc.hi, .int .i64 vc.op, .slice vc.qk vc.nk vc.ck], .slice (some ⟨M3, 0, none⟩) 2 2, .agg #[.int .i64 v4.kind, .string v4.attr, .slice v4.qi v4.ni v4.ci, .slice v4.qw v4.nw v4.cw, .int .i64 v4.lo, .int .i64 v4.hi, .int .i64 v4.op, .slice v4.qk v4.nk v4.ck], .slice (some ⟨M5, 0, none⟩) 2 2, .agg #[.int .i64 v6.kind, .string v6.attr, .slice v6.qi v6.ni v6.ci, .slice v6.qw v6.nw v6.cw, .int .i64 v6.lo, .int .i64 v6.hi, .int .i64 v6.op, .slice v6.qk v6.nk v6.ck], .slice qe ev.length ce, s123, .agg #[.int .i64 va.kind, .string va.attr, .slice va.qi va.ni va.ci, .slice va.qw va.nw va.cw, .int .i64 va.lo, .int .i64 va.hi, .int .i64 va.op, .slice va.qk va.nk va.ck], .agg #[.int .i64 vb.kind, .string vb.attr, .slice vb.qi vb.ni vb.ci, .slice vb.qw vb.nw vb.cw, .int .i64 vb.lo, .int .i64 vb.hi, .int .i64 vb.op, .slice vb.qk vb.nk vb.ck], s126, s127, .agg #[.int .i64 va.kind, .string va.attr, .slice va.qi va.ni va.ci, .slice va.qw va.nw va.cw, .int .i64 va.lo, .int .i64 va.hi, .int .i64 va.op, .slice va.qk va.nk va.ck], .agg #[.int .i64 vc.kind, .string vc.attr, .slice vc.qi vc.ni vc.ci, .slice vc.qw vc.nw vc.cw, .int .i64 vc.lo, .int .i64 vc.hi, .int .i64 vc.op, .slice vc.qk vc.nk vc.ck], .slice (some ⟨M15, 0, none⟩) 2 2, s131, s132, s133, .slice qe ev.length ce, s135, s136, s137, s138, s139, s140, s141, s142, s143, s144, s145, s146, s147, s148, s149, s150, s151, s152, s153, s154, s155] d) W) := hide (by
    intro W M3 v4 M5 v6 M15 R H3 F4 H5 F6 H15
    refine Eq.mpr (hF _ _ _ _) ?_
    have hHeld := KS W (unhide R)
    refine wpAnyH_ready (rs := [8, 11]) (by kernel_rfl) (by simp) ?_
    refine AllReadyH.cons (o := { dst := some 123, op := Op.call { callee := Callee.value (Operand.func 8), args := #[Operand.tmp 121, Operand.tmp 122], argTypes := #[31, 23] }, type := 4, pos := "law.go:63", after := #[{ on := 6, ground := Ground.data }, { on := 7, ground := Ground.data }, { on := 6, ground := Ground.chain }], guard := none }) rfl (fun K hK => ?_) ?_
    · go_simp
      refine (cEv (joinT 3 [a, (joinT 4 [b, c])]) v6 qe ce ev _ (x && (y || z)) (unhide F6) ((unhide HE).below (unhide R)) (ck2 3 (Or.inl rfl) a (joinT 4 [b, c]) (unhide HCa) (ck2 4 (Or.inr rfl) b c (unhide HCb) (unhide HCc))) ((tA2 ev a (joinT 4 [b, c])).trans (congr (congrArg and (unhide HXa)) ((tO2 ev b c).trans (congr (congrArg or (unhide HXb)) (unhide HXc))))) (by have := unhide HW; have := w2 3 a (joinT 4 [b, c]); have := w2 4 b c; omega) (unhide HL)).mono ?_
      rintro e W1 ⟨rfl, bb⟩
      refine hK.out _ _ (KS _ (below_sub (unhide R) bb)) (fun hHeld => ?_)
      clear hK K
      refine Eq.mp (hF _ _ _ _) ?_
      exact dp_to (unhide st8 W1 M3 v4 M5 v6 M15 (hide (below_sub (unhide R) bb)) (hide (((bb).block _ (heap_lt (unhide H3))).trans (unhide H3))) (hide ((unhide F4).keep (bb))) (hide (((bb).block _ (heap_lt (unhide H5))).trans (unhide H5))) (hide ((unhide F6).keep (bb))) (hide (((bb).block _ (heap_lt (unhide H15))).trans (unhide H15)))) (by kernel_rfl) rfl
    refine AllReadyH.cons (o := { dst := some 126, op := Op.buildSlice 22 2 #[(0, Operand.tmp 124), (1, Operand.tmp 125)], type := 22, pos := "law.go:63", after := #[{ on := 9, ground := Ground.data }, { on := 10, ground := Ground.data }], guard := none }) rfl (fun K hK => ?_) ?_
    · go_simp
      refine hK.out _ _ (KS _ ((unhide R).alloc (unhide R).size _)) (fun hHeld => ?_)
      clear hK K
      refine Eq.mp (hF _ _ _ _) ?_
      exact dp_to (unhide st10 (World.alloc W (.cells #[.int .i64 va.kind, .string va.attr, .slice va.qi va.ni va.ci, .slice va.qw va.nw va.cw, .int .i64 va.lo, .int .i64 va.hi, .int .i64 va.op, .slice va.qk va.nk va.ck, .int .i64 vb.kind, .string vb.attr, .slice vb.qi vb.ni vb.ci, .slice vb.qw vb.nw vb.cw, .int .i64 vb.lo, .int .i64 vb.hi, .int .i64 vb.op, .slice vb.qk vb.nk vb.ck] 31)) M3 v4 M5 v6 W.heap.size M15 (hide ((unhide R).alloc (unhide R).size _)) (hide (((((Below.refl W.heap.size W).alloc (Nat.le_refl _) (.cells #[.int .i64 va.kind, .string va.attr, .slice va.qi va.ni va.ci, .slice va.qw va.nw va.cw, .int .i64 va.lo, .int .i64 va.hi, .int .i64 va.op, .slice va.qk va.nk va.ck, .int .i64 vb.kind, .string vb.attr, .slice vb.qi vb.ni vb.ci, .slice vb.qw vb.nw vb.cw, .int .i64 vb.lo, .int .i64 vb.hi, .int .i64 vb.op, .slice vb.qk vb.nk vb.ck] 31))).block _ (heap_lt (unhide H3))).trans (unhide H3))) (hide ((unhide F4).keep (((Below.refl W.heap.size W).alloc (Nat.le_refl _) (.cells #[.int .i64 va.kind, .string va.attr, .slice va.qi va.ni va.ci, .slice va.qw va.nw va.cw, .int .i64 va.lo, .int .i64 va.hi, .int .i64 va.op, .slice va.qk va.nk va.ck, .int .i64 vb.kind, .string vb.attr, .slice vb.qi vb.ni vb.ci, .slice vb.qw vb.nw vb.cw, .int .i64 vb.lo, .int .i64 vb.hi, .int .i64 vb.op, .slice vb.qk vb.nk vb.ck] 31))))) (hide (((((Below.refl W.heap.size W).alloc (Nat.le_refl _) (.cells #[.int .i64 va.kind, .string va.attr, .slice va.qi va.ni va.ci, .slice va.qw va.nw va.cw, .int .i64 va.lo, .int .i64 va.hi, .int .i64 va.op, .slice va.qk va.nk va.ck, .int .i64 vb.kind, .string vb.attr, .slice vb.qi vb.ni vb.ci, .slice vb.qw vb.nw vb.cw, .int .i64 vb.lo, .int .i64 vb.hi, .int .i64 vb.op, .slice vb.qk vb.nk vb.ck] 31))).block _ (heap_lt (unhide H5))).trans (unhide H5))) (hide ((unhide F6).keep (((Below.refl W.heap.size W).alloc (Nat.le_refl _) (.cells #[.int .i64 va.kind, .string va.attr, .slice va.qi va.ni va.ci, .slice va.qw va.nw va.cw, .int .i64 va.lo, .int .i64 va.hi, .int .i64 va.op, .slice va.qk va.nk va.ck, .int .i64 vb.kind, .string vb.attr, .slice vb.qi vb.ni vb.ci, .slice vb.qw vb.nw vb.cw, .int .i64 vb.lo, .int .i64 vb.hi, .int .i64 vb.op, .slice vb.qk vb.nk vb.ck] 31))))) (hide (box_nw _ _)) (hide (((((Below.refl W.heap.size W).alloc (Nat.le_refl _) (.cells #[.int .i64 va.kind, .string va.attr, .slice va.qi va.ni va.ci, .slice va.qw va.nw va.cw, .int .i64 va.lo, .int .i64 va.hi, .int .i64 va.op, .slice va.qk va.nk va.ck, .int .i64 vb.kind, .string vb.attr, .slice vb.qi vb.ni vb.ci, .slice vb.qw vb.nw vb.cw, .int .i64 vb.lo, .int .i64 vb.hi, .int .i64 vb.op, .slice vb.qk vb.nk vb.ck] 31))).block _ (heap_lt (unhide H15))).trans (unhide H15)))) (by kernel_rfl) rfl
    exact AllReadyH.nil
    )
  have st13 : Hid (∀ (W : World) (M3 : Nat) (v4 : Nv) (M5 : Nat) (v6 : Nv), Hid (Below U.heap.size U W) → Hid (W.heap[M3]? = some (.cells #[.int .i64 vb.kind, .string vb.attr, .slice vb.qi vb.ni vb.ci, .slice vb.qw vb.nw vb.cw, .int .i64 vb.lo, .int .i64 vb.hi, .int .i64 vb.op, .slice vb.qk vb.nk vb.ck, .int .i64 vc.kind, .string vc.attr, .slice vc.qi vc.ni vc.ci, .slice vc.qw vc.nw vc.cw, .int .i64 vc.lo, .int .i64 vc.hi, .int .i64 vc.op, .slice vc.qk vc.nk vc.ck] 31 (0, 0))) → Hid (NdIn W v4 (joinT 4 [b, c])) → Hid (W.heap[M5]? = some (.cells #[.int .i64 va.kind, .string va.attr, .slice va.qi va.ni va.ci, .slice va.qw va.nw va.cw, .int .i64 va.lo, .int .i64 va.hi, .int .i64 va.op, .slice va.qk va.nk va.ck, .int .i64 v4.kind, .string v4.attr, .slice v4.qi v4.ni v4.ci, .slice v4.qw v4.nw v4.cw, .int .i64 v4.lo, .int .i64 v4.hi, .int .i64 v4.op, .slice v4.qk v4.nk v4.ck] 31 (0, 0))) → Hid (NdIn W v6 (joinT 3 [a, (joinT 4 [b, c])])) → F 29 #[true, true, true, true, true, true, true, true, false, true, true, false, false, true, true, false, false, false, false, true, false, false, false, false, false, false, false, false, false, false, false, false, false, false, false, false, false, false, false, false, false, false] (Act.mk #[s0, s1, s2, .slice qe ev.length ce, .pointer (some ⟨A, 0, none⟩), .pointer (some ⟨B, 0, none⟩), .pointer (some ⟨C, 0, none⟩), s7, s8, .bool x, .bool y, .bool z, .bool (x && y), .bool (x || y), s14, s15, s16, s17, s18, s19, s20, s21, s22, s23, s24, s25, s26, s27, s28, s29, s30, s31, s32, s33, s34, s35, s36, s37, s38, s39, s40, s41, s42, s43, s44, s45, s46, s47, s48, s49, s50, s51, s52, s53, s54, s55, s56, s57, s58, s59, s60, s61, s62, s63, s64, s65, s66, s67, s68, s69, s70, s71, s72, s73, s74, s75, s76, s77, s78, s79, s80, s81, s82, s83, s84, s85, s86, s87, s88, s89, s90, s91, s92, s93, s94, s95, s96, s97, s98, s99, s100, s101, s102, s103, s104, s105, s106, s107, s108, s109, s110, s111, s112, s113, s114, .agg #[.int .i64 va.kind, .string va.attr, .slice va.qi va.ni va.ci, .slice va.qw va.nw va.cw, .int .i64 va.lo, .int .i64 va.hi, .int .i64 va.op, .slice va.qk va.nk va.ck], .agg #[.int .i64 vb.kind, .string vb.attr, .slice vb.qi vb.ni vb.ci, .slice vb.qw vb.nw vb.cw, .int .i64 vb.lo, .int .i64 vb.hi, .int .i64 vb.op, .slice vb.qk vb.nk vb.ck], .agg #[.int .i64 vc.kind, .string vc.attr, .slice vc.qi vc.ni vc.ci, .slice vc.qw vc.nw vc.cw, .int .i64 vc.lo, .int .i64 vc.hi, .int .i64 vc.op, .slice vc.qk vc.nk vc.ck], .slice (some ⟨M3, 0, none⟩) 2 2, .agg #[.int .i64 v4.kind, .string v4.attr, .slice v4.qi v4.ni v4.ci, .slice v4.qw v4.nw v4.cw, .int .i64 v4.lo, .int .i64 v4.hi, .int .i64 v4.op, .slice v4.qk v4.nk v4.ck], .slice (some ⟨M5, 0, none⟩) 2 2, .agg #[.int .i64 v6.kind, .string v6.attr, .slice v6.qi v6.ni v6.ci, .slice v6.qw v6.nw v6.cw, .int .i64 v6.lo, .int .i64 v6.hi, .int .i64 v6.op, .slice v6.qk v6.nk v6.ck], .slice qe ev.length ce, s123, .agg #[.int .i64 va.kind, .string va.attr, .slice va.qi va.ni va.ci, .slice va.qw va.nw va.cw, .int .i64 va.lo, .int .i64 va.hi, .int .i64 va.op, .slice va.qk va.nk va.ck], .agg #[.int .i64 vb.kind, .string vb.attr, .slice vb.qi vb.ni vb.ci, .slice vb.qw vb.nw vb.cw, .int .i64 vb.lo, .int .i64 vb.hi, .int .i64 vb.op, .slice vb.qk vb.nk vb.ck], s126, s127, .agg #[.int .i64 va.kind, .string va.attr, .slice va.qi va.ni va.ci, .slice va.qw va.nw va.cw, .int .i64 va.lo, .int .i64 va.hi, .int .i64 va.op, .slice va.qk va.nk va.ck], .agg #[.int .i64 vc.kind, .string vc.attr, .slice vc.qi vc.ni vc.ci, .slice vc.qw vc.nw vc.cw, .int .i64 vc.lo, .int .i64 vc.hi, .int .i64 vc.op, .slice vc.qk vc.nk vc.ck], s130, s131, s132, s133, .slice qe ev.length ce, s135, s136, s137, s138, s139, s140, s141, s142, s143, s144, s145, s146, s147, s148, s149, s150, s151, s152, s153, s154, s155] d) W) := hide (by
    intro W M3 v4 M5 v6 R H3 F4 H5 F6
    refine Eq.mpr (hF _ _ _ _) ?_
    have hHeld := KS W (unhide R)
    refine wpAnyH_ready (rs := [8, 11, 15]) (by kernel_rfl) (by simp) ?_
    refine AllReadyH.cons (o := { dst := some 123, op := Op.call { callee := Callee.value (Operand.func 8), args := #[Operand.tmp 121, Operand.tmp 122], argTypes := #[31, 23] }, type := 4, pos := "law.go:63", after := #[{ on := 6, ground := Ground.data }, { on := 7, ground := Ground.data }, { on := 6, ground := Ground.chain }], guard := none }) rfl (fun K hK => ?_) ?_
    · go_simp
      refine (cEv (joinT 3 [a, (joinT 4 [b, c])]) v6 qe ce ev _ (x && (y || z)) (unhide F6) ((unhide HE).below (unhide R)) (ck2 3 (Or.inl rfl) a (joinT 4 [b, c]) (unhide HCa) (ck2 4 (Or.inr rfl) b c (unhide HCb) (unhide HCc))) ((tA2 ev a (joinT 4 [b, c])).trans (congr (congrArg and (unhide HXa)) ((tO2 ev b c).trans (congr (congrArg or (unhide HXb)) (unhide HXc))))) (by have := unhide HW; have := w2 3 a (joinT 4 [b, c]); have := w2 4 b c; omega) (unhide HL)).mono ?_
      rintro e W1 ⟨rfl, bb⟩
      refine hK.out _ _ (KS _ (below_sub (unhide R) bb)) (fun hHeld => ?_)
      clear hK K
      refine Eq.mp (hF _ _ _ _) ?_
      exact dp_to (unhide st9 W1 M3 v4 M5 v6 (hide (below_sub (unhide R) bb)) (hide (((bb).block _ (heap_lt (unhide H3))).trans (unhide H3))) (hide ((unhide F4).keep (bb))) (hide (((bb).block _ (heap_lt (unhide H5))).trans (unhide H5))) (hide ((unhide F6).keep (bb)))) (by kernel_rfl) rfl
    refine AllReadyH.cons (o := { dst := some 126, op := Op.buildSlice 22 2 #[(0, Operand.tmp 124), (1, Operand.tmp 125)], type := 22, pos := "law.go:63", after := #[{ on := 9, ground := Ground.data }, { on := 10, ground := Ground.data }], guard := none }) rfl (fun K hK => ?_) ?_
    · go_simp
      refine hK.out _ _ (KS _ ((unhide R).alloc (unhide R).size _)) (fun hHeld => ?_)
      clear hK K
      refine Eq.mp (hF _ _ _ _) ?_
      exact dp_to (unhide st11 (World.alloc W (.cells #[.int .i64 va.kind, .string va.attr, .slice va.qi va.ni va.ci, .slice va.qw va.nw va.cw, .int .i64 va.lo, .int .i64 va.hi, .int .i64 va.op, .slice va.qk va.nk va.ck, .int .i64 vb.kind, .string vb.attr, .slice vb.qi vb.ni vb.ci, .slice vb.qw vb.nw vb.cw, .int .i64 vb.lo, .int .i64 vb.hi, .int .i64 vb.op, .slice vb.qk vb.nk vb.ck] 31)) M3 v4 M5 v6 W.heap.size (hide ((unhide R).alloc (unhide R).size _)) (hide (((((Below.refl W.heap.size W).alloc (Nat.le_refl _) (.cells #[.int .i64 va.kind, .string va.attr, .slice va.qi va.ni va.ci, .slice va.qw va.nw va.cw, .int .i64 va.lo, .int .i64 va.hi, .int .i64 va.op, .slice va.qk va.nk va.ck, .int .i64 vb.kind, .string vb.attr, .slice vb.qi vb.ni vb.ci, .slice vb.qw vb.nw vb.cw, .int .i64 vb.lo, .int .i64 vb.hi, .int .i64 vb.op, .slice vb.qk vb.nk vb.ck] 31))).block _ (heap_lt (unhide H3))).trans (unhide H3))) (hide ((unhide F4).keep (((Below.refl W.heap.size W).alloc (Nat.le_refl _) (.cells #[.int .i64 va.kind, .string va.attr, .slice va.qi va.ni va.ci, .slice va.qw va.nw va.cw, .int .i64 va.lo, .int .i64 va.hi, .int .i64 va.op, .slice va.qk va.nk va.ck, .int .i64 vb.kind, .string vb.attr, .slice vb.qi vb.ni vb.ci, .slice vb.qw vb.nw vb.cw, .int .i64 vb.lo, .int .i64 vb.hi, .int .i64 vb.op, .slice vb.qk vb.nk vb.ck] 31))))) (hide (((((Below.refl W.heap.size W).alloc (Nat.le_refl _) (.cells #[.int .i64 va.kind, .string va.attr, .slice va.qi va.ni va.ci, .slice va.qw va.nw va.cw, .int .i64 va.lo, .int .i64 va.hi, .int .i64 va.op, .slice va.qk va.nk va.ck, .int .i64 vb.kind, .string vb.attr, .slice vb.qi vb.ni vb.ci, .slice vb.qw vb.nw vb.cw, .int .i64 vb.lo, .int .i64 vb.hi, .int .i64 vb.op, .slice vb.qk vb.nk vb.ck] 31))).block _ (heap_lt (unhide H5))).trans (unhide H5))) (hide ((unhide F6).keep (((Below.refl W.heap.size W).alloc (Nat.le_refl _) (.cells #[.int .i64 va.kind, .string va.attr, .slice va.qi va.ni va.ci, .slice va.qw va.nw va.cw, .int .i64 va.lo, .int .i64 va.hi, .int .i64 va.op, .slice va.qk va.nk va.ck, .int .i64 vb.kind, .string vb.attr, .slice vb.qi vb.ni vb.ci, .slice vb.qw vb.nw vb.cw, .int .i64 vb.lo, .int .i64 vb.hi, .int .i64 vb.op, .slice vb.qk vb.nk vb.ck] 31))))) (hide (box_nw _ _))) (by kernel_rfl) rfl
    refine AllReadyH.cons (o := { dst := some 130, op := Op.buildSlice 22 2 #[(0, Operand.tmp 128), (1, Operand.tmp 129)], type := 22, pos := "law.go:63", after := #[{ on := 13, ground := Ground.data }, { on := 14, ground := Ground.data }], guard := none }) rfl (fun K hK => ?_) ?_
    · go_simp
      refine hK.out _ _ (KS _ ((unhide R).alloc (unhide R).size _)) (fun hHeld => ?_)
      clear hK K
      refine Eq.mp (hF _ _ _ _) ?_
      exact dp_to (unhide st12 (World.alloc W (.cells #[.int .i64 va.kind, .string va.attr, .slice va.qi va.ni va.ci, .slice va.qw va.nw va.cw, .int .i64 va.lo, .int .i64 va.hi, .int .i64 va.op, .slice va.qk va.nk va.ck, .int .i64 vc.kind, .string vc.attr, .slice vc.qi vc.ni vc.ci, .slice vc.qw vc.nw vc.cw, .int .i64 vc.lo, .int .i64 vc.hi, .int .i64 vc.op, .slice vc.qk vc.nk vc.ck] 31)) M3 v4 M5 v6 W.heap.size (hide ((unhide R).alloc (unhide R).size _)) (hide (((((Below.refl W.heap.size W).alloc (Nat.le_refl _) (.cells #[.int .i64 va.kind, .string va.attr, .slice va.qi va.ni va.ci, .slice va.qw va.nw va.cw, .int .i64 va.lo, .int .i64 va.hi, .int .i64 va.op, .slice va.qk va.nk va.ck, .int .i64 vc.kind, .string vc.attr, .slice vc.qi vc.ni vc.ci, .slice vc.qw vc.nw vc.cw, .int .i64 vc.lo, .int .i64 vc.hi, .int .i64 vc.op, .slice vc.qk vc.nk vc.ck] 31))).block _ (heap_lt (unhide H3))).trans (unhide H3))) (hide ((unhide F4).keep (((Below.refl W.heap.size W).alloc (Nat.le_refl _) (.cells #[.int .i64 va.kind, .string va.attr, .slice va.qi va.ni va.ci, .slice va.qw va.nw va.cw, .int .i64 va.lo, .int .i64 va.hi, .int .i64 va.op, .slice va.qk va.nk va.ck, .int .i64 vc.kind, .string vc.attr, .slice vc.qi vc.ni vc.ci, .slice vc.qw vc.nw vc.cw, .int .i64 vc.lo, .int .i64 vc.hi, .int .i64 vc.op, .slice vc.qk vc.nk vc.ck] 31))))) (hide (((((Below.refl W.heap.size W).alloc (Nat.le_refl _) (.cells #[.int .i64 va.kind, .string va.attr, .slice va.qi va.ni va.ci, .slice va.qw va.nw va.cw, .int .i64 va.lo, .int .i64 va.hi, .int .i64 va.op, .slice va.qk va.nk va.ck, .int .i64 vc.kind, .string vc.attr, .slice vc.qi vc.ni vc.ci, .slice vc.qw vc.nw vc.cw, .int .i64 vc.lo, .int .i64 vc.hi, .int .i64 vc.op, .slice vc.qk vc.nk vc.ck] 31))).block _ (heap_lt (unhide H5))).trans (unhide H5))) (hide ((unhide F6).keep (((Below.refl W.heap.size W).alloc (Nat.le_refl _) (.cells #[.int .i64 va.kind, .string va.attr, .slice va.qi va.ni va.ci, .slice va.qw va.nw va.cw, .int .i64 va.lo, .int .i64 va.hi, .int .i64 va.op, .slice va.qk va.nk va.ck, .int .i64 vc.kind, .string vc.attr, .slice vc.qi vc.ni vc.ci, .slice vc.qw vc.nw vc.cw, .int .i64 vc.lo, .int .i64 vc.hi, .int .i64 vc.op, .slice vc.qk vc.nk vc.ck] 31))))) (hide (box_nw _ _))) (by kernel_rfl) rfl
    exact AllReadyH.nil
    )
  have st14 : Hid (∀ (W : World) (M3 : Nat) (v4 : Nv) (M5 : Nat) (M11 : Nat) (M15 : Nat), Hid (Below U.heap.size U W) → Hid (W.heap[M3]? = some (.cells #[.int .i64 vb.kind, .string vb.attr, .slice vb.qi vb.ni vb.ci, .slice vb.qw vb.nw vb.cw, .int .i64 vb.lo, .int .i64 vb.hi, .int .i64 vb.op, .slice vb.qk vb.nk vb.ck, .int .i64 vc.kind, .string vc.attr, .slice vc.qi vc.ni vc.ci, .slice vc.qw vc.nw vc.cw, .int .i64 vc.lo, .int .i64 vc.hi, .int .i64 vc.op, .slice vc.qk vc.nk vc.ck] 31 (0, 0))) → Hid (NdIn W v4 (joinT 4 [b, c])) → Hid (W.heap[M5]? = some (.cells #[.int .i64 va.kind, .string va.attr, .slice va.qi va.ni va.ci, .slice va.qw va.nw va.cw, .int .i64 va.lo, .int .i64 va.hi, .int .i64 va.op, .slice va.qk va.nk va.ck, .int .i64 v4.kind, .string v4.attr, .slice v4.qi v4.ni v4.ci, .slice v4.qw v4.nw v4.cw, .int .i64 v4.lo, .int .i64 v4.hi, .int .i64 v4.op, .slice v4.qk v4.nk v4.ck] 31 (0, 0))) → Hid (W.heap[M11]? = some (.cells #[.int .i64 va.kind, .string va.attr, .slice va.qi va.ni va.ci, .slice va.qw va.nw va.cw, .int .i64 va.lo, .int .i64 va.hi, .int .i64 va.op, .slice va.qk va.nk va.ck, .int .i64 vb.kind, .string vb.attr, .slice vb.qi vb.ni vb.ci, .slice vb.qw vb.nw vb.cw, .int .i64 vb.lo, .int .i64 vb.hi, .int .i64 vb.op, .slice vb.qk vb.nk vb.ck] 31 (0, 0))) → Hid (W.heap[M15]? = some (.cells #[.int .i64 va.kind, .string va.attr, .slice va.qi va.ni va.ci, .slice va.qw va.nw va.cw, .int .i64 va.lo, .int .i64 va.hi, .int .i64 va.op, .slice va.qk va.nk va.ck, .int .i64 vc.kind, .string vc.attr, .slice vc.qi vc.ni vc.ci, .slice vc.qw vc.nw vc.cw, .int .i64 vc.lo, .int .i64 vc.hi, .int .i64 vc.op, .slice vc.qk vc.nk vc.ck] 31 (0, 0))) → F 28 #[true, true, true, true, true, true, false, true, false, true, true, true, false, true, true, true, false, false, false, true, false, false, false, false, false, false, false, false, false, false, false, false, false, false, false, false, false, false, false, false, false, false] (Act.mk #[s0, s1, s2, .slice qe ev.length ce, .pointer (some ⟨A, 0, none⟩), .pointer (some ⟨B, 0, none⟩), .pointer (some ⟨C, 0, none⟩), s7, s8, .bool x, .bool y, .bool z, .bool (x && y), .bool (x || y), s14, s15, s16, s17, s18, s19, s20, s21, s22, s23, s24, s25, s26, s27, s28, s29, s30, s31, s32, s33, s34, s35, s36, s37, s38, s39, s40, s41, s42, s43, s44, s45, s46, s47, s48, s49, s50, s51, s52, s53, s54, s55, s56, s57, s58, s59, s60, s61, s62, s63, s64, s65, s66, s67, s68, s69, s70, s71, s72, s73, s74, s75, s76, s77, s78, s79, s80, s81, s82, s83, s84, s85, s86, s87, s88, s89, s90, s91, s92, s93, s94, s95, s96, s97, s98, s99, s100, s101, s102, s103, s104, s105, s106, s107, s108, s109, s110, s111, s112, s113, s114, .agg #[.int .i64 va.kind, .string va.attr, .slice va.qi va.ni va.ci, .slice va.qw va.nw va.cw, .int .i64 va.lo, .int .i64 va.hi, .int .i64 va.op, .slice va.qk va.nk va.ck], .agg #[.int .i64 vb.kind, .string vb.attr, .slice vb.qi vb.ni vb.ci, .slice vb.qw vb.nw vb.cw, .int .i64 vb.lo, .int .i64 vb.hi, .int .i64 vb.op, .slice vb.qk vb.nk vb.ck], .agg #[.int .i64 vc.kind, .string vc.attr, .slice vc.qi vc.ni vc.ci, .slice vc.qw vc.nw vc.cw, .int .i64 vc.lo, .int .i64 vc.hi, .int .i64 vc.op, .slice vc.qk vc.nk vc.ck], .slice (some ⟨M3, 0, none⟩) 2 2, .agg #[.int .i64 v4.kind, .string v4.attr, .slice v4.qi v4.ni v4.ci, .slice v4.qw v4.nw v4.cw, .int .i64 v4.lo, .int .i64 v4.hi, .int .i64 v4.op, .slice v4.qk v4.nk v4.ck], .slice (some ⟨M5, 0, none⟩) 2 2, s121, .slice qe ev.length ce, s123, .agg #[.int .i64 va.kind, .string va.attr, .slice va.qi va.ni va.ci, .slice va.qw va.nw va.cw, .int .i64 va.lo, .int .i64 va.hi, .int .i64 va.op, .slice va.qk va.nk va.ck], .agg #[.int .i64 vb.kind, .string vb.attr, .slice vb.qi vb.ni vb.ci, .slice vb.qw vb.nw vb.cw, .int .i64 vb.lo, .int .i64 vb.hi, .int .i64 vb.op, .slice vb.qk vb.nk vb.ck], .slice (some ⟨M11, 0, none⟩) 2 2, s127, .agg #[.int .i64 va.kind, .string va.attr, .slice va.qi va.ni va.ci, .slice va.qw va.nw va.cw, .int .i64 va.lo, .int .i64 va.hi, .int .i64 va.op, .slice va.qk va.nk va.ck], .agg #[.int .i64 vc.kind, .string vc.attr, .slice vc.qi vc.ni vc.ci, .slice vc.qw vc.nw vc.cw, .int .i64 vc.lo, .int .i64 vc.hi, .int .i64 vc.op, .slice vc.qk vc.nk vc.ck], .slice (some ⟨M15, 0, none⟩) 2 2, s131, s132, s133, .slice qe ev.length ce, s135, s136, s137, s138, s139, s140, s141, s142, s143, s144, s145, s146, s147, s148, s149, s150, s151, s152, s153, s154, s155] d) W) := hide (by
    intro W M3 v4 M5 M11 M15 R H3 F4 H5 H11 H15
    refine Eq.mpr (hF _ _ _ _) ?_
    have hHeld := KS W (unhide R)
    refine wpAnyH_ready (rs := [6]) (by kernel_rfl) (by simp) ?_
    refine AllReadyH.cons (o := { dst := some 121, op := Op.call { callee := Callee.value (Operand.func 19), args := #[Operand.tmp 120], argTypes := #[22] }, type := 31, pos := "law.go:63", after := #[{ on := 5, ground := Ground.data }, { on := 4, ground := Ground.chain }], guard := none }) rfl (fun K hK => ?_) ?_
    · go_simp
      refine (cAnd a (joinT 4 [b, c]) va v4 M5 _ (unhide H5) ((unhide Na).keep (unhide R)) (unhide F4) (by have := unhide HW; have := w2 4 b c; omega)).mono ?_
      rintro e W1 ⟨⟨v6, rfl, bn⟩, bb⟩
      simp only [Nv.val]
      refine hK.out _ _ (KS _ (below_sub (unhide R) bb)) (fun hHeld => ?_)
      clear hK K
      refine Eq.mp (hF _ _ _ _) ?_
      exact dp_to (unhide st10 W1 M3 v4 M5 v6 M11 M15 (hide (below_sub (unhide R) bb)) (hide (((bb).block _ (heap_lt (unhide H3))).trans (unhide H3))) (hide ((unhide F4).keep (bb))) (hide (((bb).block _ (heap_lt (unhide H5))).trans (unhide H5))) (hide bn.toIn) (hide (((bb).block _ (heap_lt (unhide H11))).trans (unhide H11))) (hide (((bb).block _ (heap_lt (unhide H15))).trans (unhide H15)))) (by kernel_rfl) rfl
    exact AllReadyH.nil
    )
  have st15 : Hid (∀ (W : World) (M3 : Nat) (v4 : Nv) (M5 : Nat) (M11 : Nat), Hid (Below U.heap.size U W) → Hid (W.heap[M3]? = some (.cells #[.int .i64 vb.kind, .string vb.attr, .slice vb.qi vb.ni vb.ci, .slice vb.qw vb.nw vb.cw, .int .i64 vb.lo, .int .i64 vb.hi, .int .i64 vb.op, .slice vb.qk vb.nk vb.ck, .int .i64 vc.kind, .string vc.attr, .slice vc.qi vc.ni vc.ci, .slice vc.qw vc.nw vc.cw, .int .i64 vc.lo, .int .i64 vc.hi, .int .i64 vc.op, .slice vc.qk vc.nk vc.ck] 31 (0, 0))) → Hid (NdIn W v4 (joinT 4 [b, c])) → Hid (W.heap[M5]? = some (.cells #[.int .i64 va.kind, .string va.attr, .slice va.qi va.ni va.ci, .slice va.qw va.nw va.cw, .int .i64 va.lo, .int .i64 va.hi, .int .i64 va.op, .slice va.qk va.nk va.ck, .int .i64 v4.kind, .string v4.attr, .slice v4.qi v4.ni v4.ci, .slice v4.qw v4.nw v4.cw, .int .i64 v4.lo, .int .i64 v4.hi, .int .i64 v4.op, .slice v4.qk v4.nk v4.ck] 31 (0, 0))) → Hid (W.heap[M11]? = some (.cells #[.int .i64 va.kind, .string va.attr, .slice va.qi va.ni va.ci, .slice va.qw va.nw va.cw, .int .i64 va.lo, .int .i64 va.hi, .int .i64 va.op, .slice va.qk va.nk va.ck, .int .i64 vb.kind, .string vb.attr, .slice vb.qi vb.ni vb.ci, .slice vb.qw vb.nw vb.cw, .int .i64 vb.lo, .int .i64 vb.hi, .int .i64 vb.op, .slice vb.qk vb.nk vb.ck] 31 (0, 0))) → F 29 #[true, true, true, true, true, true, false, true, false, true, true, true, false, true, true, false, false, false, false, true, false, false, false, false, false, false, false, false, false, false, false, false, false, false, false, false, false, false, false, false, false, false] (Act.mk #[s0, s1, s2, .slice qe ev.length ce, .pointer (some ⟨A, 0, none⟩), .pointer (some ⟨B, 0, none⟩), .pointer (some ⟨C, 0, none⟩), s7, s8, .bool x, .bool y, .bool z, .bool (x && y), .bool (x || y), s14, s15, s16, s17, s18, s19, s20, s21, s22, s23, s24, s25, s26, s27, s28, s29, s30, s31, s32, s33, s34, s35, s36, s37, s38, s39, s40, s41, s42, s43, s44, s45, s46, s47, s48, s49, s50, s51, s52, s53, s54, s55, s56, s57, s58, s59, s60, s61, s62, s63, s64, s65, s66, s67, s68, s69, s70, s71, s72, s73, s74, s75, s76, s77, s78, s79, s80, s81, s82, s83, s84, s85, s86, s87, s88, s89, s90, s91, s92, s93, s94, s95, s96, s97, s98, s99, s100, s101, s102, s103, s104, s105, s106, s107, s108, s109, s110, s111, s112, s113, s114, .agg #[.int .i64 va.kind, .string va.attr, .slice va.qi va.ni va.ci, .slice va.qw va.nw va.cw, .int .i64 va.lo, .int .i64 va.hi, .int .i64 va.op, .slice va.qk va.nk va.ck], .agg #[.int .i64 vb.kind, .string vb.attr, .slice vb.qi vb.ni vb.ci, .slice vb.qw vb.nw vb.cw, .int .i64 vb.lo, .int .i64 vb.hi, .int .i64 vb.op, .slice vb.qk vb.nk vb.ck], .agg #[.int .i64 vc.kind, .string vc.attr, .slice vc.qi vc.ni vc.ci, .slice vc.qw vc.nw vc.cw, .int .i64 vc.lo, .int .i64 vc.hi, .int .i64 vc.op, .slice vc.qk vc.nk vc.ck], .slice (some ⟨M3, 0, none⟩) 2 2, .agg #[.int .i64 v4.kind, .string v4.attr, .slice v4.qi v4.ni v4.ci, .slice v4.qw v4.nw v4.cw, .int .i64 v4.lo, .int .i64 v4.hi, .int .i64 v4.op, .slice v4.qk v4.nk v4.ck], .slice (some ⟨M5, 0, none⟩) 2 2, s121, .slice qe ev.length ce, s123, .agg #[.int .i64 va.kind, .string va.attr, .slice va.qi va.ni va.ci, .slice va.qw va.nw va.cw, .int .i64 va.lo, .int .i64 va.hi, .int .i64 va.op, .slice va.qk va.nk va.ck], .agg #[.int .i64 vb.kind, .string vb.attr, .slice vb.qi vb.ni vb.ci, .slice vb.qw vb.nw vb.cw, .int .i64 vb.lo, .int .i64 vb.hi, .int .i64 vb.op, .slice vb.qk vb.nk vb.ck], .slice (some ⟨M11, 0, none⟩) 2 2, s127, .agg #[.int .i64 va.kind, .string va.attr, .slice va.qi va.ni va.ci, .slice va.qw va.nw va.cw, .int .i64 va.lo, .int .i64 va.hi, .int .i64 va.op, .slice va.qk va.nk va.ck], .agg #[.int .i64 vc.kind, .string vc.attr, .slice vc.qi vc.ni vc.ci, .slice vc.qw vc.nw vc.cw, .int .i64 vc.lo, .int .i64 vc.hi, .int .i64 vc.op, .slice vc.qk vc.nk vc.ck], s130, s131, s132, s133, .slice qe ev.length ce, s135, s136, s137, s138, s139, s140, s141, s142, s143, s144, s145, s146, s147, s148, s149, s150, s151, s152, s153, s154, s155] d) W) := hide (by
    intro W M3 v4 M5 M11 R H3 F4 H5 H11
    refine Eq.mpr (hF _ _ _ _) ?_
    have hHeld := KS W (unhide R)
    refine wpAnyH_ready (rs := [6, 15]) (by kernel_rfl) (by simp) ?_
    refine AllReadyH.cons (o := { dst := some 121, op := Op.call { callee := Callee.value (Operand.func 19), args := #[Operand.tmp 120], argTypes := #[22] }, type := 31, pos := "law.go:63", after := #[{ on := 5, ground := Ground.data }, { on := 4, ground := Ground.chain }], guard := none }) rfl (fun K hK => ?_) ?_
    · go_simp
      refine (cAnd a (joinT 4 [b, c]) va v4 M5 _ (unhide H5) ((unhide Na).keep (unhide R)) (unhide F4) (by have := unhide HW; have := w2 4 b c; omega)).mono ?_
      rintro e W1 ⟨⟨v6, rfl, bn⟩, bb⟩
      simp only [Nv.val]
      refine hK.out _ _ (KS _ (below_sub (unhide R) bb)) (fun hHeld => ?_)
      clear hK K
      refine Eq.mp (hF _ _ _ _) ?_
      exact dp_to (unhide st11 W1 M3 v4 M5 v6 M11 (hide (below_sub (unhide R) bb)) (hide (((bb).block _ (heap_lt (unhide H3))).trans (unhide H3))) (hide ((unhide F4).keep (bb))) (hide (((bb).block _ (heap_lt (unhide H5))).trans (unhide H5))) (hide bn.toIn) (hide (((bb).block _ (heap_lt (unhide H11))).trans (unhide H11)))) (by kernel_rfl) rfl
    refine AllReadyH.cons (o := { dst := some 130, op := Op.buildSlice 22 2 #[(0, Operand.tmp 128), (1, Operand.tmp 129)], type := 22, pos := "law.go:63", after := #[{ on := 13, ground := Ground.data }, { on := 14, ground := Ground.data }], guard := none }) rfl (fun K hK => ?_) ?_
    · go_simp
      refine hK.out _ _ (KS _ ((unhide R).alloc (unhide R).size _)) (fun hHeld => ?_)
      clear hK K
      refine Eq.mp (hF _ _ _ _) ?_
      exact dp_to (unhide st14 (World.alloc W (.cells #[.int .i64 va.kind, .string va.attr, .slice va.qi va.ni va.ci, .slice va.qw va.nw va.cw, .int .i64 va.lo, .int .i64 va.hi, .int .i64 va.op, .slice va.qk va.nk va.ck, .int .i64 vc.kind, .string vc.attr, .slice vc.qi vc.ni vc.ci, .slice vc.qw vc.nw vc.cw, .int .i64 vc.lo, .int .i64 vc.hi, .int .i64 vc.op, .slice vc.qk vc.nk vc.ck] 31)) M3 v4 M5 M11 W.heap.size (hide ((unhide R).alloc (unhide R).size _)) (hide (((((Below.refl W.heap.size W).alloc (Nat.le_refl _) (.cells #[.int .i64 va.kind, .string va.attr, .slice va.qi va.ni va.ci, .slice va.qw va.nw va.cw, .int .i64 va.lo, .int .i64 va.hi, .int .i64 va.op, .slice va.qk va.nk va.ck, .int .i64 vc.kind, .string vc.attr, .slice vc.qi vc.ni vc.ci, .slice vc.qw vc.nw vc.cw, .int .i64 vc.lo, .int .i64 vc.hi, .int .i64 vc.op, .slice vc.qk vc.nk vc.ck] 31))).block _ (heap_lt (unhide H3))).trans (unhide H3))) (hide ((unhide F4).keep (((Below.refl W.heap.size W).alloc (Nat.le_refl _) (.cells #[.int .i64 va.kind, .string va.attr, .slice va.qi va.ni va.ci, .slice va.qw va.nw va.cw, .int .i64 va.lo, .int .i64 va.hi, .int .i64 va.op, .slice va.qk va.nk va.ck, .int .i64 vc.kind, .string vc.attr, .slice vc.qi vc.ni vc.ci, .slice vc.qw vc.nw vc.cw, .int .i64 vc.lo, .int .i64 vc.hi, .int .i64 vc.op, .slice vc.qk vc.nk vc.ck] 31))))) (hide (((((Below.refl W.heap.size W).alloc (Nat.le_refl _) (.cells #[.int .i64 va.kind, .string va.attr, .slice va.qi va.ni va.ci, .slice va.qw va.nw va.cw, .int .i64 va.lo, .int .i64 va.hi, .int .i64 va.op, .slice va.qk va.nk va.ck, .int .i64 vc.kind, .string vc.attr, .slice vc.qi vc.ni vc.ci, .slice vc.qw vc.nw vc.cw, .int .i64 vc.lo, .int .i64 vc.hi, .int .i64 vc.op, .slice vc.qk vc.nk vc.ck] 31))).block _ (heap_lt (unhide H5))).trans (unhide H5))) (hide (((((Below.refl W.heap.size W).alloc (Nat.le_refl _) (.cells #[.int .i64 va.kind, .string va.attr, .slice va.qi va.ni va.ci, .slice va.qw va.nw va.cw, .int .i64 va.lo, .int .i64 va.hi, .int .i64 va.op, .slice va.qk va.nk va.ck, .int .i64 vc.kind, .string vc.attr, .slice vc.qi vc.ni vc.ci, .slice vc.qw vc.nw vc.cw, .int .i64 vc.lo, .int .i64 vc.hi, .int .i64 vc.op, .slice vc.qk vc.nk vc.ck] 31))).block _ (heap_lt (unhide H11))).trans (unhide H11))) (hide (box_nw _ _))) (by kernel_rfl) rfl
    exact AllReadyH.nil
    )
  have st16 : Hid (∀ (W : World) (M3 : Nat) (v4 : Nv) (M5 : Nat) (M15 : Nat), Hid (Below U.heap.size U W) → Hid (W.heap[M3]? = some (.cells #[.int .i64 vb.kind, .string vb.attr, .slice vb.qi vb.ni vb.ci, .slice vb.qw vb.nw vb.cw, .int .i64 vb.lo, .int .i64 vb.hi, .int .i64 vb.op, .slice vb.qk vb.nk vb.ck, .int .i64 vc.kind, .string vc.attr, .slice vc.qi vc.ni vc.ci, .slice vc.qw vc.nw vc.cw, .int .i64 vc.lo, .int .i64 vc.hi, .int .i64 vc.op, .slice vc.qk vc.nk vc.ck] 31 (0, 0))) → Hid (NdIn W v4 (joinT 4 [b, c])) → Hid (W.heap[M5]? = some (.cells #[.int .i64 va.kind, .string va.attr, .slice va.qi va.ni va.ci, .slice va.qw va.nw va.cw, .int .i64 va.lo, .int .i64 va.hi, .int .i64 va.op, .slice va.qk va.nk va.ck, .int .i64 v4.kind, .string v4.attr, .slice v4.qi v4.ni v4.ci, .slice v4.qw v4.nw v4.cw, .int .i64 v4.lo, .int .i64 v4.hi, .int .i64 v4.op, .slice v4.qk v4.nk v4.ck] 31 (0, 0))) → Hid (W.heap[M15]? = some (.cells #[.int .i64 va.kind, .string va.attr, .slice va.qi va.ni va.ci, .slice va.qw va.nw va.cw, .int .i64 va.lo, .int .i64 va.hi, .int .i64 va.op, .slice va.qk va.nk va.ck, .int .i64 vc.kind, .string vc.attr, .slice vc.qi vc.ni vc.ci, .slice vc.qw vc.nw vc.cw, .int .i64 vc.lo, .int .i64 vc.hi, .int .i64 vc.op, .slice vc.qk vc.nk vc.ck] 31 (0, 0))) → F 29 #[true, true, true, true, true, true, false, true, false, true, true, false, false, true, true, true, false, false, false, true, false, false, false, false, false, false, false, false, false, false, false, false, false, false, false, false, false, false, false, false, false, false] (Act.mk #[s0, s1, s2, .slice qe ev.length ce, .pointer (some ⟨A, 0, none⟩), .pointer (some ⟨B, 0, none⟩), .pointer (some ⟨C, 0, none⟩), s7, s8, .bool x, .bool y, .bool z, .bool (x && y), .bool (x || y), s14, s15, s16, s17, s18, s19, s20, s21, s22, s23, s24, s25, s26, s27, s28, s29, s30, s31, s32, s33, s34, s35, s36, s37, s38, s39, s40, s41, s42, s43, s44, s45, s46, s47, s48, s49, s50, s51, s52, s53, s54, s55, s56, s57, s58, s59, s60, s61, s62, s63, s64, s65, s66, s67, s68, s69, s70, s71, s72, s73, s74, s75, s76, s77, s78, s79, s80, s81, s82, s83, s84, s85, s86, s87, s88, s89, s90, s91, s92, s93, s94, s95, s96, s97, s98, s99, s100, s101, s102, s103, s104, s105, s106, s107, s108, s109, s110, s111, s112, s113, s114, .agg #[.int .i64 va.kind, .string va.attr, .slice va.qi va.ni va.ci, .slice va.qw va.nw va.cw, .int .i64 va.lo, .int .i64 va.hi, .int .i64 va.op, .slice va.qk va.nk va.ck], .agg #[.int .i64 vb.kind, .string vb.attr, .slice vb.qi vb.ni vb.ci, .slice vb.qw vb.nw vb.cw, .int .i64 vb.lo, .int .i64 vb.hi, .int .i64 vb.op, .slice vb.qk vb.nk vb.ck], .agg #[.int .i64 vc.kind, .string vc.attr, .slice vc.qi vc.ni vc.ci, .slice vc.qw vc.nw vc.cw, .int .i64 vc.lo, .int .i64 vc.hi, .int .i64 vc.op, .slice vc.qk vc.nk vc.ck], .slice (some ⟨M3, 0, none⟩) 2 2, .agg #[.int .i64 v4.kind, .string v4.attr, .slice v4.qi v4.ni v4.ci, .slice v4.qw v4.nw v4.cw, .int .i64 v4.lo, .int .i64 v4.hi, .int .i64 v4.op, .slice v4.qk v4.nk v4.ck], .slice (some ⟨M5, 0, none⟩) 2 2, s121, .slice qe ev.length ce, s123, .agg #[.int .i64 va.kind, .string va.attr, .slice va.qi va.ni va.ci, .slice va.qw va.nw va.cw, .int .i64 va.lo, .int .i64 va.hi, .int .i64 va.op, .slice va.qk va.nk va.ck], .agg #[.int .i64 vb.kind, .string vb.attr, .slice vb.qi vb.ni vb.ci, .slice vb.qw vb.nw vb.cw, .int .i64 vb.lo, .int .i64 vb.hi, .int .i64 vb.op, .slice vb.qk vb.nk vb.ck], s126, s127, .agg #[.int .i64 va.kind, .string va.attr, .slice va.qi va.ni va.ci, .slice va.qw va.nw va.cw, .int .i64 va.lo, .int .i64 va.hi, .int .i64 va.op, .slice va.qk va.nk va.ck], .agg #[.int .i64 vc.kind, .string vc.attr, .slice vc.qi vc.ni vc.ci, .slice vc.qw vc.nw vc.cw, .int .i64 vc.lo, .int .i64 vc.hi, .int .i64 vc.op, .slice vc.qk vc.nk vc.ck], .slice (some ⟨M15, 0, none⟩) 2 2, s131, s132, s133, .slice qe ev.length ce, s135, s136, s137, s138, s139, s140, s141, s142, s143, s144, s145, s146, s147, s148, s149, s150, s151, s152, s153, s154, s155] d) W) := hide (by
    intro W M3 v4 M5 M15 R H3 F4 H5 H15
    refine Eq.mpr (hF _ _ _ _) ?_
    have hHeld := KS W (unhide R)
    refine wpAnyH_ready (rs := [6, 11]) (by kernel_rfl) (by simp) ?_
    refine AllReadyH.cons (o := { dst := some 121, op := Op.call { callee := Callee.value (Operand.func 19), args := #[Operand.tmp 120], argTypes := #[22] }, type := 31, pos := "law.go:63", after := #[{ on := 5, ground := Ground.data }, { on := 4, ground := Ground.chain }], guard := none }) rfl (fun K hK => ?_) ?_
    · go_simp
      refine (cAnd a (joinT 4 [b, c]) va v4 M5 _ (unhide H5) ((unhide Na).keep (unhide R)) (unhide F4) (by have := unhide HW; have := w2 4 b c; omega)).mono ?_
      rintro e W1 ⟨⟨v6, rfl, bn⟩, bb⟩
      simp only [Nv.val]
      refine hK.out _ _ (KS _ (below_sub (unhide R) bb)) (fun hHeld => ?_)
      clear hK K
      refine Eq.mp (hF _ _ _ _) ?_
      exact dp_to (unhide st12 W1 M3 v4 M5 v6 M15 (hide (below_sub (unhide R) bb)) (hide (((bb).block _ (heap_lt (unhide H3))).trans (unhide H3))) (hide ((unhide F4).keep (bb))) (hide (((bb).block _ (heap_lt (unhide H5))).trans (unhide H5))) (hide bn.toIn) (hide (((bb).block _ (heap_lt (unhide H15))).trans (unhide H15)))) (by kernel_rfl) rfl
    refine AllReadyH.cons (o := { dst := some 126, op := Op.buildSlice 22 2 #[(0, Operand.tmp 124), (1, Operand.tmp 125)], type := 22, pos := "law.go:63", after := #[{ on := 9, ground := Ground.data }, { on := 10, ground := Ground.data }], guard := none }) rfl (fun K hK => ?_) ?_
    · go_simp
      refine hK.out _ _ (KS _ ((unhide R).alloc (unhide R).size _)) (fun hHeld => ?_)
      clear hK K
      refine Eq.mp (hF _ _ _ _) ?_
      exact dp_to (unhide st14 (World.alloc W (.cells #[.int .i64 va.kind, .string va.attr, .slice va.qi va.ni va.ci, .slice va.qw va.nw va.cw, .int .i64 va.lo, .int .i64 va.hi, .int .i64 va.op, .slice va.qk va.nk va.ck, .int .i64 vb.kind, .string vb.attr, .slice vb.qi vb.ni vb.ci, .slice vb.qw vb.nw vb.cw, .int .i64 vb.lo, .int .i64 vb.hi, .int .i64 vb.op, .slice vb.qk vb.nk vb.ck] 31)) M3 v4 M5 W.heap.size M15 (hide ((unhide R).alloc (unhide R).size _)) (hide (((((Below.refl W.heap.size W).alloc (Nat.le_refl _) (.cells #[.int .i64 va.kind, .string va.attr, .slice va.qi va.ni va.ci, .slice va.qw va.nw va.cw, .int .i64 va.lo, .int .i64 va.hi, .int .i64 va.op, .slice va.qk va.nk va.ck, .int .i64 vb.kind, .string vb.attr, .slice vb.qi vb.ni vb.ci, .slice vb.qw vb.nw vb.cw, .int .i64 vb.lo, .int .i64 vb.hi, .int .i64 vb.op, .slice vb.qk vb.nk vb.ck] 31))).block _ (heap_lt (unhide H3))).trans (unhide H3))) (hide ((unhide F4).keep (((Below.refl W.heap.size W).alloc (Nat.le_refl _) (.cells #[.int .i64 va.kind, .string va.attr, .slice va.qi va.ni va.ci, .slice va.qw va.nw va.cw, .int .i64 va.lo, .int .i64 va.hi, .int .i64 va.op, .slice va.qk va.nk va.ck, .int .i64 vb.kind, .string vb.attr, .slice vb.qi vb.ni vb.ci, .slice vb.qw vb.nw vb.cw, .int .i64 vb.lo, .int .i64 vb.hi, .int .i64 vb.op, .slice vb.qk vb.nk vb.ck] 31))))) (hide (((((Below.refl W.heap.size W).alloc (Nat.le_refl _) (.cells #[.int .i64 va.kind, .string va.attr, .slice va.qi va.ni va.ci, .slice va.qw va.nw va.cw, .int .i64 va.lo, .int .i64 va.hi, .int .i64 va.op, .slice va.qk va.nk va.ck, .int .i64 vb.kind, .string vb.attr, .slice vb.qi vb.ni vb.ci, .slice vb.qw vb.nw vb.cw, .int .i64 vb.lo, .int .i64 vb.hi, .int .i64 vb.op, .slice vb.qk vb.nk vb.ck] 31))).block _ (heap_lt (unhide H5))).trans (unhide H5))) (hide (box_nw _ _)) (hide (((((Below.refl W.heap.size W).alloc (Nat.le_refl _) (.cells #[.int .i64 va.kind, .string va.attr, .slice va.qi va.ni va.ci, .slice va.qw va.nw va.cw, .int .i64 va.lo, .int .i64 va.hi, .int .i64 va.op, .slice va.qk va.nk va.ck, .int .i64 vb.kind, .string vb.attr, .slice vb.qi vb.ni vb.ci, .slice vb.qw vb.nw vb.cw, .int .i64 vb.lo, .int .i64 vb.hi, .int .i64 vb.op, .slice vb.qk vb.nk vb.ck] 31))).block _ (heap_lt (unhide H15))).trans (unhide H15)))) (by kernel_rfl) rfl
    exact AllReadyH.nil
    )
  have st17 : Hid (∀ (W : World) (M3 : Nat) (v4 : Nv) (M5 : Nat), Hid (Below U.heap.size U W) → Hid (W.heap[M3]? = some (.cells #[.int .i64 vb.kind, .string vb.attr, .slice vb.qi vb.ni vb.ci, .slice vb.qw vb.nw vb.cw, .int .i64 vb.lo, .int .i64 vb.hi, .int .i64 vb.op, .slice vb.qk vb.nk vb.ck, .int .i64 vc.kind, .string vc.attr, .slice vc.qi vc.ni vc.ci, .slice vc.qw vc.nw vc.cw, .int .i64 vc.lo, .int .i64 vc.hi, .int .i64 vc.op, .slice vc.qk vc.nk vc.ck] 31 (0, 0))) → Hid (NdIn W v4 (joinT 4 [b, c])) → Hid (W.heap[M5]? = some (.cells #[.int .i64 va.kind, .string va.attr, .slice va.qi va.ni va.ci, .slice va.qw va.nw va.cw, .int .i64 va.lo, .int .i64 va.hi, .int .i64 va.op, .slice va.qk va.nk va.ck, .int .i64 v4.kind, .string v4.attr, .slice v4.qi v4.ni v4.ci, .slice v4.qw v4.nw v4.cw, .int .i64 v4.lo, .int .i64 v4.hi, .int .i64 v4.op, .slice v4.qk v4.nk v4.ck] 31 (0, 0))) → F 30 #[true, true, true, true, true, true, false, true, false, true, true, false, false, true, true, false, false, false, false, true, false, false, false, false, false, false, false, false, false, false, false, false, false, false, false, false, false, false, false, false, false, false] (Act.mk #[s0, s1, s2, .slice qe ev.length ce, .pointer (some ⟨A, 0, none⟩), .pointer (some ⟨B, 0, none⟩), .pointer (some ⟨C, 0, none⟩), s7, s8, .bool x, .bool y, .bool z, .bool (x && y), .bool (x || y), s14, s15, s16, s17, s18, s19, s20, s21, s22, s23, s24, s25, s26, s27, s28, s29, s30, s31, s32, s33, s34, s35, s36, s37, s38, s39, s40, s41, s42, s43, s44, s45, s46, s47, s48, s49, s50, s51, s52, s53, s54, s55, s56, s57, s58, s59, s60, s61, s62, s63, s64, s65, s66, s67, s68, s69, s70, s71, s72, s73, s74, s75, s76, s77, s78, s79, s80, s81, s82, s83, s84, s85, s86, s87, s88, s89, s90, s91, s92, s93, s94, s95, s96, s97, s98, s99, s100, s101, s102, s103, s104, s105, s106, s107, s108, s109, s110, s111, s112, s113, s114, .agg #[.int .i64 va.kind, .string va.attr, .slice va.qi va.ni va.ci, .slice va.qw va.nw va.cw, .int .i64 va.lo, .int .i64 va.hi, .int .i64 va.op, .slice va.qk va.nk va.ck], .agg #[.int .i64 vb.kind, .string vb.attr, .slice vb.qi vb.ni vb.ci, .slice vb.qw vb.nw vb.cw, .int .i64 vb.lo, .int .i64 vb.hi, .int .i64 vb.op, .slice vb.qk vb.nk vb.ck], .agg #[.int .i64 vc.kind, .string vc.attr, .slice vc.qi vc.ni vc.ci, .slice vc.qw vc.nw vc.cw, .int .i64 vc.lo, .int .i64 vc.hi, .int .i64 vc.op, .slice vc.qk vc.nk vc.ck], .slice (some ⟨M3, 0, none⟩) 2 2, .agg #[.int .i64 v4.kind, .string v4.attr, .slice v4.qi v4.ni v4.ci, .slice v4.qw v4.nw v4.cw, .int .i64 v4.lo, .int .i64 v4.hi, .int .i64 v4.op, .slice v4.qk v4.nk v4.ck], .slice (some ⟨M5, 0, none⟩) 2 2, s121, .slice qe ev.length ce, s123, .agg #[.int .i64 va.kind, .string va.attr, .slice va.qi va.ni va.ci, .slice va.qw va.nw va.cw, .int .i64 va.lo, .int .i64 va.hi, .int .i64 va.op, .slice va.qk va.nk va.ck], .agg #[.int .i64 vb.kind, .string vb.attr, .slice vb.qi vb.ni vb.ci, .slice vb.qw vb.nw vb.cw, .int .i64 vb.lo, .int .i64 vb.hi, .int .i64 vb.op, .slice vb.qk vb.nk vb.ck], s126, s127, .agg #[.int .i64 va.kind, .string va.attr, .slice va.qi va.ni va.ci, .slice va.qw va.nw va.cw, .int .i64 va.lo, .int .i64 va.hi, .int .i64 va.op, .slice va.qk va.nk va.ck], .agg #[.int .i64 vc.kind, .string vc.attr, .slice vc.qi vc.ni vc.ci, .slice vc.qw vc.nw vc.cw, .int .i64 vc.lo, .int .i64 vc.hi, .int .i64 vc.op, .slice vc.qk vc.nk vc.ck], s130, s131, s132, s133, .slice qe ev.length ce, s135, s136, s137, s138, s139, s140, s141, s142, s143, s144, s145, s146, s147, s148, s149, s150, s151, s152, s153, s154, s155] d) W) := hide (by
    intro W M3 v4 M5 R H3 F4 H5
    refine Eq.mpr (hF _ _ _ _) ?_
    have hHeld := KS W (unhide R)
    refine wpAnyH_ready (rs := [6, 11, 15]) (by kernel_rfl) (by simp) ?_
    refine AllReadyH.cons (o := { dst := some 121, op := Op.call { callee := Callee.value (Operand.func 19), args := #[Operand.tmp 120], argTypes := #[22] }, type := 31, pos := "law.go:63", after := #[{ on := 5, ground := Ground.data }, { on := 4, ground := Ground.chain }], guard := none }) rfl (fun K hK => ?_) ?_
    · go_simp
      refine (cAnd a (joinT 4 [b, c]) va v4 M5 _ (unhide H5) ((unhide Na).keep (unhide R)) (unhide F4) (by have := unhide HW; have := w2 4 b c; omega)).mono ?_
      rintro e W1 ⟨⟨v6, rfl, bn⟩, bb⟩
      simp only [Nv.val]
      refine hK.out _ _ (KS _ (below_sub (unhide R) bb)) (fun hHeld => ?_)
      clear hK K
      refine Eq.mp (hF _ _ _ _) ?_
      exact dp_to (unhide st13 W1 M3 v4 M5 v6 (hide (below_sub (unhide R) bb)) (hide (((bb).block _ (heap_lt (unhide H3))).trans (unhide H3))) (hide ((unhide F4).keep (bb))) (hide (((bb).block _ (heap_lt (unhide H5))).trans (unhide H5))) (hide bn.toIn)) (by kernel_rfl) rfl
    refine AllReadyH.cons (o := { dst := some 126, op := Op.buildSlice 22 2 #[(0, Operand.tmp 124), (1, Operand.tmp 125)], type := 22, pos := "law.go:63", after := #[{ on := 9, ground := Ground.data }, { on := 10, ground := Ground.data }], guard := none }) rfl (fun K hK => ?_) ?_
    · go_simp
      refine hK.out _ _ (KS _ ((unhide R).alloc (unhide R).size _)) (fun hHeld => ?_)
      clear hK K
      refine Eq.mp (hF _ _ _ _) ?_
      exact dp_to (unhide st15 (World.alloc W (.cells #[.int .i64 va.kind, .string va.attr, .slice va.qi va.ni va.ci, .slice va.qw va.nw va.cw, .int .i64 va.lo, .int .i64 va.hi, .int .i64 va.op, .slice va.qk va.nk va.ck, .int .i64 vb.kind, .string vb.attr, .slice vb.qi vb.ni vb.ci, .slice vb.qw vb.nw vb.cw, .int .i64 vb.lo, .int .i64 vb.hi, .int .i64 vb.op, .slice vb.qk vb.nk vb.ck] 31)) M3 v4 M5 W.heap.size (hide ((unhide R).alloc (unhide R).size _)) (hide (((((Below.refl W.heap.size W).alloc (Nat.le_refl _) (.cells #[.int .i64 va.kind, .string va.attr, .slice va.qi va.ni va.ci, .slice va.qw va.nw va.cw, .int .i64 va.lo, .int .i64 va.hi, .int .i64 va.op, .slice va.qk va.nk va.ck, .int .i64 vb.kind, .string vb.attr, .slice vb.qi vb.ni vb.ci, .slice vb.qw vb.nw vb.cw, .int .i64 vb.lo, .int .i64 vb.hi, .int .i64 vb.op, .slice vb.qk vb.nk vb.ck] 31))).block _ (heap_lt (unhide H3))).trans (unhide H3))) (hide ((unhide F4).keep (((Below.refl W.heap.size W).alloc (Nat.le_refl _) (.cells #[.int .i64 va.kind, .string va.attr, .slice va.qi va.ni va.ci, .slice va.qw va.nw va.cw, .int .i64 va.lo, .int .i64 va.hi, .int .i64 va.op, .slice va.qk va.nk va.ck, .int .i64 vb.kind, .string vb.attr, .slice vb.qi vb.ni vb.ci, .slice vb.qw vb.nw vb.cw, .int .i64 vb.lo, .int .i64 vb.hi, .int .i64 vb.op, .slice vb.qk vb.nk vb.ck] 31))))) (hide (((((Below.refl W.heap.size W).alloc (Nat.le_refl _) (.cells #[.int .i64 va.kind, .string va.attr, .slice va.qi va.ni va.ci, .slice va.qw va.nw va.cw, .int .i64 va.lo, .int .i64 va.hi, .int .i64 va.op, .slice va.qk va.nk va.ck, .int .i64 vb.kind, .string vb.attr, .slice vb.qi vb.ni vb.ci, .slice vb.qw vb.nw vb.cw, .int .i64 vb.lo, .int .i64 vb.hi, .int .i64 vb.op, .slice vb.qk vb.nk vb.ck] 31))).block _ (heap_lt (unhide H5))).trans (unhide H5))) (hide (box_nw _ _))) (by kernel_rfl) rfl
    refine AllReadyH.cons (o := { dst := some 130, op := Op.buildSlice 22 2 #[(0, Operand.tmp 128), (1, Operand.tmp 129)], type := 22, pos := "law.go:63", after := #[{ on := 13, ground := Ground.data }, { on := 14, ground := Ground.data }], guard := none }) rfl (fun K hK => ?_) ?_
    · go_simp
      refine hK.out _ _ (KS _ ((unhide R).alloc (unhide R).size _)) (fun hHeld => ?_)
      clear hK K
      refine Eq.mp (hF _ _ _ _) ?_
      exact dp_to (unhide st16 (World.alloc W (.cells #[.int .i64 va.kind, .string va.attr, .slice va.qi va.ni va.ci, .slice va.qw va.nw va.cw, .int .i64 va.lo, .int .i64 va.hi, .int .i64 va.op, .slice va.qk va.nk va.ck, .int .i64 vc.kind, .string vc.attr, .slice vc.qi vc.ni vc.ci, .slice vc.qw vc.nw vc.cw, .int .i64 vc.lo, .int .i64 vc.hi, .int .i64 vc.op, .slice vc.qk vc.nk vc.ck] 31)) M3 v4 M5 W.heap.size (hide ((unhide R).alloc (unhide R).size _)) (hide (((((Below.refl W.heap.size W).alloc (Nat.le_refl _) (.cells #[.int .i64 va.kind, .string va.attr, .slice va.qi va.ni va.ci, .slice va.qw va.nw va.cw, .int .i64 va.lo, .int .i64 va.hi, .int .i64 va.op, .slice va.qk va.nk va.ck, .int .i64 vc.kind, .string vc.attr, .slice vc.qi vc.ni vc.ci, .slice vc.qw vc.nw vc.cw, .int .i64 vc.lo, .int .i64 vc.hi, .int .i64 vc.op, .slice vc.qk vc.nk vc.ck] 31))).block _ (heap_lt (unhide H3))).trans (unhide H3))) (hide ((unhide F4).keep (((Below.refl W.heap.size W).alloc (Nat.le_refl _) (.cells #[.int .i64 va.kind, .string va.attr, .slice va.qi va.ni va.ci, .slice va.qw va.nw va.cw, .int .i64 va.lo, .int .i64 va.hi, .int .i64 va.op, .slice va.qk va.nk va.ck, .int .i64 vc.kind, .string vc.attr, .slice vc.qi vc.ni vc.ci, .slice vc.qw vc.nw vc.cw, .int .i64 vc.lo, .int .i64 vc.hi, .int .i64 vc.op, .slice vc.qk vc.nk vc.ck] 31))))) (hide (((((Below.refl W.heap.size W).alloc (Nat.le_refl _) (.cells #[.int .i64 va.kind, .string va.attr, .slice va.qi va.ni va.ci, .slice va.qw va.nw va.cw, .int .i64 va.lo, .int .i64 va.hi, .int .i64 va.op, .slice va.qk va.nk va.ck, .int .i64 vc.kind, .string vc.attr, .slice vc.qi vc.ni vc.ci, .slice vc.qw vc.nw vc.cw, .int .i64 vc.lo, .int .i64 vc.hi, .int .i64 vc.op, .slice vc.qk vc.nk vc.ck] 31))).block _ (heap_lt (unhide H5))).trans (unhide H5))) (hide (box_nw _ _))) (by kernel_rfl) rfl
    exact AllReadyH.nil
    )
  have st18 : Hid (∀ (W : World) (M3 : Nat) (v4 : Nv) (M11 : Nat) (M15 : Nat), Hid (Below U.heap.size U W) → Hid (W.heap[M3]? = some (.cells #[.int .i64 vb.kind, .string vb.attr, .slice vb.qi vb.ni vb.ci, .slice vb.qw vb.nw vb.cw, .int .i64 vb.lo, .int .i64 vb.hi, .int .i64 vb.op, .slice vb.qk vb.nk vb.ck, .int .i64 vc.kind, .string vc.attr, .slice vc.qi vc.ni vc.ci, .slice vc.qw vc.nw vc.cw, .int .i64 vc.lo, .int .i64 vc.hi, .int .i64 vc.op, .slice vc.qk vc.nk vc.ck] 31 (0, 0))) → Hid (NdIn W v4 (joinT 4 [b, c])) → Hid (W.heap[M11]? = some (.cells #[.int .i64 va.kind, .string va.attr, .slice va.qi va.ni va.ci, .slice va.qw va.nw va.cw, .int .i64 va.lo, .int .i64 va.hi, .int .i64 va.op, .slice va.qk va.nk va.ck, .int .i64 vb.kind, .string vb.attr, .slice vb.qi vb.ni vb.ci, .slice vb.qw vb.nw vb.cw, .int .i64 vb.lo, .int .i64 vb.hi, .int .i64 vb.op, .slice vb.qk vb.nk vb.ck] 31 (0, 0))) → Hid (W.heap[M15]? = some (.cells #[.int .i64 va.kind, .string va.attr, .slice va.qi va.ni va.ci, .slice va.qw va.nw va.cw, .int .i64 va.lo, .int .i64 va.hi, .int .i64 va.op, .slice va.qk va.nk va.ck, .int .i64 vc.kind, .string vc.attr, .slice vc.qi vc.ni vc.ci, .slice vc.qw vc.nw vc.cw, .int .i64 vc.lo, .int .i64 vc.hi, .int .i64 vc.op, .slice vc.qk vc.nk vc.ck] 31 (0, 0))) → F 29 #[true, true, true, true, true, false, false, true, false, true, true, true, false, true, true, true, false, false, false, true, false, false, false, false, false, false, false, false, false, false, false, false, false, false, false, false, false, false, false, false, false, false] (Act.mk #[s0, s1, s2, .slice qe ev.length ce, .pointer (some ⟨A, 0, none⟩), .pointer (some ⟨B, 0, none⟩), .pointer (some ⟨C, 0, none⟩), s7, s8, .bool x, .bool y, .bool z, .bool (x && y), .bool (x || y), s14, s15, s16, s17, s18, s19, s20, s21, s22, s23, s24, s25, s26, s27, s28, s29, s30, s31, s32, s33, s34, s35, s36, s37, s38, s39, s40, s41, s42, s43, s44, s45, s46, s47, s48, s49, s50, s51, s52, s53, s54, s55, s56, s57, s58, s59, s60, s61, s62, s63, s64, s65, s66, s67, s68, s69, s70, s71, s72, s73, s74, s75, s76, s77, s78, s79, s80, s81, s82, s83, s84, s85, s86, s87, s88, s89, s90, s91, s92, s93, s94, s95, s96, s97, s98, s99, s100, s101, s102, s103, s104, s105, s106, s107, s108, s109, s110, s111, s112, s113, s114, .agg #[.int .i64 va.kind, .string va.attr, .slice va.qi va.ni va.ci, .slice va.qw va.nw va.cw, .int .i64 va.lo, .int .i64 va.hi, .int .i64 va.op, .slice va.qk va.nk va.ck], .agg #[.int .i64 vb.kind, .string vb.attr, .slice vb.qi vb.ni vb.ci, .slice vb.qw vb.nw vb.cw, .int .i64 vb.lo, .int .i64 vb.hi, .int .i64 vb.op, .slice vb.qk vb.nk vb.ck], .agg #[.int .i64 vc.kind, .string vc.attr, .slice vc.qi vc.ni vc.ci, .slice vc.qw vc.nw vc.cw, .int .i64 vc.lo, .int .i64 vc.hi, .int .i64 vc.op, .slice vc.qk vc.nk vc.ck], .slice (some ⟨M3, 0, none⟩) 2 2, .agg #[.int .i64 v4.kind, .string v4.attr, .slice v4.qi v4.ni v4.ci, .slice v4.qw v4.nw v4.cw, .int .i64 v4.lo, .int .i64 v4.hi, .int .i64 v4.op, .slice v4.qk v4.nk v4.ck], s120, s121, .slice qe ev.length ce, s123, .agg #[.int .i64 va.kind, .string va.attr, .slice va.qi va.ni va.ci, .slice va.qw va.nw va.cw, .int .i64 va.lo, .int .i64 va.hi, .int .i64 va.op, .slice va.qk va.nk va.ck], .agg #[.int .i64 vb.kind, .string vb.attr, .slice vb.qi vb.ni vb.ci, .slice vb.qw vb.nw vb.cw, .int .i64 vb.lo, .int .i64 vb.hi, .int .i64 vb.op, .slice vb.qk vb.nk vb.ck], .slice (some ⟨M11, 0, none⟩) 2 2, s127, .agg #[.int .i64 va.kind, .string va.attr, .slice va.qi va.ni va.ci, .slice va.qw va.nw va.cw, .int .i64 va.lo, .int .i64 va.hi, .int .i64 va.op, .slice va.qk va.nk va.ck], .agg #[.int .i64 vc.kind, .string vc.attr, .slice vc.qi vc.ni vc.ci, .slice vc.qw vc.nw vc.cw, .int .i64 vc.lo, .int .i64 vc.hi, .int .i64 vc.op, .slice vc.qk vc.nk vc.ck], .slice (some ⟨M15, 0, none⟩) 2 2, s131, s132, s133, .slice qe ev.length ce, s135, s136, s137, s138, s139, s140, s141, s142, s143, s144, s145, s146, s147, s148, s149, s150, s151, s152, s153, s154, s155] d) W) := hide (by
    intro W M3 v4 M11 M15 R H3 F4 H11 H15
    refine Eq.mpr (hF _ _ _ _) ?_
    have hHeld := KS W (unhide R)
    refine wpAnyH_ready (rs := [5]) (by kernel_rfl) (by simp) ?_
    refine AllReadyH.cons (o := { dst := some 120, op := Op.buildSlice 22 2 #[(0, Operand.tmp 115), (1, Operand.tmp 119)], type := 22, pos := "law.go:63", after := #[{ on := 0, ground := Ground.data }, { on := 4, ground := Ground.data }], guard := none }) rfl (fun K hK => ?_) ?_
    · go_simp
      refine hK.out _ _ (KS _ ((unhide R).alloc (unhide R).size _)) (fun hHeld => ?_)
      clear hK K
      refine Eq.mp (hF _ _ _ _) ?_
      exact dp_to (unhide st14 (World.alloc W (.cells #[.int .i64 va.kind, .string va.attr, .slice va.qi va.ni va.ci, .slice va.qw va.nw va.cw, .int .i64 va.lo, .int .i64 va.hi, .int .i64 va.op, .slice va.qk va.nk va.ck, .int .i64 v4.kind, .string v4.attr, .slice v4.qi v4.ni v4.ci, .slice v4.qw v4.nw v4.cw, .int .i64 v4.lo, .int .i64 v4.hi, .int .i64 v4.op, .slice v4.qk v4.nk v4.ck] 31)) M3 v4 W.heap.size M11 M15 (hide ((unhide R).alloc (unhide R).size _)) (hide (((((Below.refl W.heap.size W).alloc (Nat.le_refl _) (.cells #[.int .i64 va.kind, .string va.attr, .slice va.qi va.ni va.ci, .slice va.qw va.nw va.cw, .int .i64 va.lo, .int .i64 va.hi, .int .i64 va.op, .slice va.qk va.nk va.ck, .int .i64 v4.kind, .string v4.attr, .slice v4.qi v4.ni v4.ci, .slice v4.qw v4.nw v4.cw, .int .i64 v4.lo, .int .i64 v4.hi, .int .i64 v4.op, .slice v4.qk v4.nk v4.ck] 31))).block _ (heap_lt (unhide H3))).trans (unhide H3))) (hide ((unhide F4).keep (((Below.refl W.heap.size W).alloc (Nat.le_refl _) (.cells #[.int .i64 va.kind, .string va.attr, .slice va.qi va.ni va.ci, .slice va.qw va.nw va.cw, .int .i64 va.lo, .int .i64 va.hi, .int .i64 va.op, .slice va.qk va.nk va.ck, .int .i64 v4.kind, .string v4.attr, .slice v4.qi v4.ni v4.ci, .slice v4.qw v4.nw v4.cw, .int .i64 v4.lo, .int .i64 v4.hi, .int .i64 v4.op, .slice v4.qk v4.nk v4.ck] 31))))) (hide (box_nw _ _)) (hide (((((Below.refl W.heap.size W).alloc (Nat.le_refl _) (.cells #[.int .i64 va.kind, .string va.attr, .slice va.qi va.ni va.ci, .slice va.qw va.nw va.cw, .int .i64 va.lo, .int .i64 va.hi, .int .i64 va.op, .slice va.qk va.nk va.ck, .int .i64 v4.kind, .string v4.attr, .slice v4.qi v4.ni v4.ci, .slice v4.qw v4.nw v4.cw, .int .i64 v4.lo, .int .i64 v4.hi, .int .i64 v4.op, .slice v4.qk v4.nk v4.ck] 31))).block _ (heap_lt (unhide H11))).trans (unhide H11))) (hide (((((Below.refl W.heap.size W).alloc (Nat.le_refl _) (.cells #[.int .i64 va.kind, .string va.attr, .slice va.qi va.ni va.ci, .slice va.qw va.nw va.cw, .int .i64 va.lo, .int .i64 va.hi, .int .i64 va.op, .slice va.qk va.nk va.ck, .int .i64 v4.kind, .string v4.attr, .slice v4.qi v4.ni v4.ci, .slice v4.qw v4.nw v4.cw, .int .i64 v4.lo, .int .i64 v4.hi, .int .i64 v4.op, .slice v4.qk v4.nk v4.ck] 31))).block _ (heap_lt (unhide H15))).trans (unhide H15)))) (by kernel_rfl) rfl
    exact AllReadyH.nil
    )
  have st19 : Hid (∀ (W : World) (M3 : Nat) (v4 : Nv) (M11 : Nat), Hid (Below U.heap.size U W) → Hid (W.heap[M3]? = some (.cells #[.int .i64 vb.kind, .string vb.attr, .slice vb.qi vb.ni vb.ci, .slice vb.qw vb.nw vb.cw, .int .i64 vb.lo, .int .i64 vb.hi, .int .i64 vb.op, .slice vb.qk vb.nk vb.ck, .int .i64 vc.kind, .string vc.attr, .slice vc.qi vc.ni vc.ci, .slice vc.qw vc.nw vc.cw, .int .i64 vc.lo, .int .i64 vc.hi, .int .i64 vc.op, .slice vc.qk vc.nk vc.ck] 31 (0, 0))) → Hid (NdIn W v4 (joinT 4 [b, c])) → Hid (W.heap[M11]? = some (.cells #[.int .i64 va.kind, .string va.attr, .slice va.qi va.ni va.ci, .slice va.qw va.nw va.cw, .int .i64 va.lo, .int .i64 va.hi, .int .i64 va.op, .slice va.qk va.nk va.ck, .int .i64 vb.kind, .string vb.attr, .slice vb.qi vb.ni vb.ci, .slice vb.qw vb.nw vb.cw, .int .i64 vb.lo, .int .i64 vb.hi, .int .i64 vb.op, .slice vb.qk vb.nk vb.ck] 31 (0, 0))) → F 30 #[true, true, true, true, true, false, false, true, false, true, true, true, false, true, true, false, false, false, false, true, false, false, false, false, false, false, false, false, false, false, false, false, false, false, false, false, false, false, false, false, false, false] (Act.mk #[s0, s1, s2, .slice qe ev.length ce, .pointer (some ⟨A, 0, none⟩), .pointer (some ⟨B, 0, none⟩), .pointer (some ⟨C, 0, none⟩), s7, s8, .bool x, .bool y, .bool z, .bool (x && y), .bool (x || y), s14, s15, s16, s17, s18, s19, s20, s21, s22, s23, s24, s25, s26, s27, s28, s29, s30, s31, s32, s33, s34, s35, s36, s37, s38, s39, s40, s41, s42, s43, s44, s45, s46, s47, s48, s49, s50, s51, s52, s53, s54, s55, s56, s57, s58, s59, s60, s61, s62, s63, s64, s65, s66, s67, s68, s69, s70, s71, s72, s73, s74, s75, s76, s77, s78, s79, s80, s81, s82, s83, s84, s85, s86, s87, s88, s89, s90, s91, s92, s93, s94, s95, s96, s97, s98, s99, s100, s101, s102, s103, s104, s105, s106, s107, s108, s109, s110, s111, s112, s113, s114, .agg #[.int .i64 va.kind, .string va.attr, .slice va.qi va.ni va.ci, .slice va.qw va.nw va.cw, .int .i64 va.lo, .int .i64 va.hi, .int .i64 va.op, .slice va.qk va.nk va.ck], .agg #[.int .i64 vb.kind, .string vb.attr, .slice vb.qi vb.ni vb.ci, .slice vb.qw vb.nw vb.cw, .int .i64 vb.lo, .int .i64 vb.hi, .int .i64 vb.op, .slice vb.qk vb.nk vb.ck], .agg #[.int .i64 vc.kind, .string vc.attr, .slice vc.qi vc.ni vc.ci, .slice vc.qw vc.nw vc.cw, .int .i64 vc.lo, .int .i64 vc.hi, .int .i64 vc.op, .slice vc.qk vc.nk vc.ck], .slice (some ⟨M3, 0, none⟩) 2 2, .agg #[.int .i64 v4.kind, .string v4.attr, .slice v4.qi v4.ni v4.ci, .slice v4.qw v4.nw v4.cw, .int .i64 v4.lo, .int .i64 v4.hi, .int .i64 v4.op, .slice v4.qk v4.nk v4.ck], s120, s121, .slice qe ev.length ce, s123, .agg #[.int .i64 va.kind, .string va.attr, .slice va.qi va.ni va.ci, .slice va.qw va.nw va.cw, .int .i64 va.lo, .int .i64 va.hi, .int .i64 va.op, .slice va.qk va.nk va.ck], .agg #[.int .i64 vb.kind, .string vb.attr, .slice vb.qi vb.ni vb.ci, .slice vb.qw vb.nw vb.cw, .int .i64 vb.lo, .int .i64 vb.hi, .int .i64 vb.op, .slice vb.qk vb.nk vb.ck], .slice (some ⟨M11, 0, none⟩) 2 2, s127, .agg #[.int .i64 va.kind, .string va.attr, .slice va.qi va.ni va.ci, .slice va.qw va.nw va.cw, .int .i64 va.lo, .int .i64 va.hi, .int .i64 va.op, .slice va.qk va.nk va.ck], .agg #[.int .i64 vc.kind, .string vc.attr, .slice vc.qi vc.ni vc.ci, .slice vc.qw vc.nw vc.cw, .int .i64 vc.lo, .int .i64 vc.hi, .int .i64 vc.op, .slice vc.qk vc.nk vc.ck], s130, s131, s132, s133, .slice qe ev.length ce, s135, s136, s137, s138, s139, s140, s141, s142, s143, s144, s145, s146, s147, s148, s149, s150, s151, s152, s153, s154, s155] d) W) := hide (by
    intro W M3 v4 M11 R H3 F4 H11
    refine Eq.mpr (hF _ _ _ _) ?_
    have hHeld := KS W (unhide R)
    refine wpAnyH_ready (rs := [5, 15]) (by kernel_rfl) (by simp) ?_
    refine AllReadyH.cons (o := { dst := some 120, op := Op.buildSlice 22 2 #[(0, Operand.tmp 115), (1, Operand.tmp 119)], type := 22, pos := "law.go:63", after := #[{ on := 0, ground := Ground.data }, { on := 4, ground := Ground.data }], guard := none }) rfl (fun K hK => ?_) ?_
    · go_simp
      refine hK.out _ _ (KS _ ((unhide R).alloc (unhide R).size _)) (fun hHeld => ?_)
      clear hK K
      refine Eq.mp (hF _ _ _ _) ?_
      exact dp_to (unhide st15 (World.alloc W (.cells #[.int .i64 va.kind, .string va.attr, .slice va.qi va.ni va.ci, .slice va.qw va.nw va.cw, .int .i64 va.lo, .int .i64 va.hi, .int .i64 va.op, .slice va.qk va.nk va.ck, .int .i64 v4.kind, .string v4.attr, .slice v4.qi v4.ni v4.ci, .slice v4.qw v4.nw v4.cw, .int .i64 v4.lo, .int .i64 v4.hi, .int .i64 v4.op, .slice v4.qk v4.nk v4.ck] 31)) M3 v4 W.heap.size M11 (hide ((unhide R).alloc (unhide R).size _)) (hide (((((Below.refl W.heap.size W).alloc (Nat.le_refl _) (.cells #[.int .i64 va.kind, .string va.attr, .slice va.qi va.ni va.ci, .slice va.qw va.nw va.cw, .int .i64 va.lo, .int .i64 va.hi, .int .i64 va.op, .slice va.qk va.nk va.ck, .int .i64 v4.kind, .string v4.attr, .slice v4.qi v4.ni v4.ci, .slice v4.qw v4.nw v4.cw, .int .i64 v4.lo, .int .i64 v4.hi, .int .i64 v4.op, .slice v4.qk v4.nk v4.ck] 31))).block _ (heap_lt (unhide H3))).trans (unhide H3))) (hide ((unhide F4).keep (((Below.refl W.heap.size W).alloc (Nat.le_refl _) (.cells #[.int .i64 va.kind, .string va.attr, .slice va.qi va.ni va.ci, .slice va.qw va.nw va.cw, .int .i64 va.lo, .int .i64 va.hi, .int .i64 va.op, .slice va.qk va.nk va.ck, .int .i64 v4.kind, .string v4.attr, .slice v4.qi v4.ni v4.ci, .slice v4.qw v4.nw v4.cw, .int .i64 v4.lo, .int .i64 v4.hi, .int .i64 v4.op, .slice v4.qk v4.nk v4.ck] 31))))) (hide (box_nw _ _)) (hide (((((Below.refl W.heap.size W).alloc (Nat.le_refl _) (.cells #[.int .i64 va.kind, .string va.attr, .slice va.qi va.ni va.ci, .slice va.qw va.nw va.cw, .int .i64 va.lo, .int .i64 va.hi, .int .i64 va.op, .slice va.qk va.nk va.ck, .int .i64 v4.kind, .string v4.attr, .slice v4.qi v4.ni v4.ci, .slice v4.qw v4.nw v4.cw, .int .i64 v4.lo, .int .i64 v4.hi, .int .i64 v4.op, .slice v4.qk v4.nk v4.ck] 31))).block _ (heap_lt (unhide H11))).trans (unhide H11)))) (by kernel_rfl) rfl
    refine AllReadyH.cons (o := { dst := some 130, op := Op.buildSlice 22 2 #[(0, Operand.tmp 128), (1, Operand.tmp 129)], type := 22, pos := "law.go:63", after := #[{ on := 13, ground := Ground.data }, { on := 14, ground := Ground.data }], guard := none }) rfl (fun K hK => ?_) ?_
    · go_simp
      refine hK.out _ _ (KS _ ((unhide R).alloc (unhide R).size _)) (fun hHeld => ?_)
      clear hK K
      refine Eq.mp (hF _ _ _ _) ?_
      exact dp_to (unhide st18 (World.alloc W (.cells #[.int .i64 va.kind, .string va.attr, .slice va.qi va.ni va.ci, .slice va.qw va.nw va.cw, .int .i64 va.lo, .int .i64 va.hi, .int .i64 va.op, .slice va.qk va.nk va.ck, .int .i64 vc.kind, .string vc.attr, .slice vc.qi vc.ni vc.ci, .slice vc.qw vc.nw vc.cw, .int .i64 vc.lo, .int .i64 vc.hi, .int .i64 vc.op, .slice vc.qk vc.nk vc.ck] 31)) M3 v4 M11 W.heap.size (hide ((unhide R).alloc (unhide R).size _)) (hide (((((Below.refl W.heap.size W).alloc (Nat.le_refl _) (.cells #[.int .i64 va.kind, .string va.attr, .slice va.qi va.ni va.ci, .slice va.qw va.nw va.cw, .int .i64 va.lo, .int .i64 va.hi, .int .i64 va.op, .slice va.qk va.nk va.ck, .int .i64 vc.kind, .string vc.attr, .slice vc.qi vc.ni vc.ci, .slice vc.qw vc.nw vc.cw, .int .i64 vc.lo, .int .i64 vc.hi, .int .i64 vc.op, .slice vc.qk vc.nk vc.ck] 31))).block _ (heap_lt (unhide H3))).trans (unhide H3))) (hide ((unhide F4).keep (((Below.refl W.heap.size W).alloc (Nat.le_refl _) (.cells #[.int .i64 va.kind, .string va.attr, .slice va.qi va.ni va.ci, .slice va.qw va.nw va.cw, .int .i64 va.lo, .int .i64 va.hi, .int .i64 va.op, .slice va.qk va.nk va.ck, .int .i64 vc.kind, .string vc.attr, .slice vc.qi vc.ni vc.ci, .slice vc.qw vc.nw vc.cw, .int .i64 vc.lo, .int .i64 vc.hi, .int .i64 vc.op, .slice vc.qk vc.nk vc.ck] 31))))) (hide (((((Below.refl W.heap.size W).alloc (Nat.le_refl _) (.cells #[.int .i64 va.kind, .string va.attr, .slice va.qi va.ni va.ci, .slice va.qw va.nw va.cw, .int .i64 va.lo, .int .i64 va.hi, .int .i64 va.op, .slice va.qk va.nk va.ck, .int .i64 vc.kind, .string vc.attr, .slice vc.qi vc.ni vc.ci, .slice vc.qw vc.nw vc.cw, .int .i64 vc.lo, .int .i64 vc.hi, .int .i64 vc.op, .slice vc.qk vc.nk vc.ck] 31))).block _ (heap_lt (unhide H11))).trans (unhide H11))) (hide (box_nw _ _))) (by kernel_rfl) rfl
    exact AllReadyH.nil
    )
  have st20 : Hid (∀ (W : World) (M3 : Nat) (v4 : Nv) (M15 : Nat), Hid (Below U.heap.size U W) → Hid (W.heap[M3]? = some (.cells #[.int .i64 vb.kind, .string vb.attr, .slice vb.qi vb.ni vb.ci, .slice vb.qw vb.nw vb.cw, .int .i64 vb.lo, .int .i64 vb.hi, .int .i64 vb.op, .slice vb.qk vb.nk vb.ck, .int .i64 vc.kind, .string vc.attr, .slice vc.qi vc.ni vc.ci, .slice vc.qw vc.nw vc.cw, .int .i64 vc.lo, .int .i64 vc.hi, .int .i64 vc.op, .slice vc.qk vc.nk vc.ck] 31 (0, 0))) → Hid (NdIn W v4 (joinT 4 [b, c])) → Hid (W.heap[M15]? = some (.cells #[.int .i64 va.kind, .string va.attr, .slice va.qi va.ni va.ci, .slice va.qw va.nw va.cw, .int .i64 va.lo, .int .i64 va.hi, .int .i64 va.op, .slice va.qk va.nk va.ck, .int .i64 vc.kind, .string vc.attr, .slice vc.qi vc.ni vc.ci, .slice vc.qw vc.nw vc.cw, .int .i64 vc.lo, .int .i64 vc.hi, .int .i64 vc.op, .slice vc.qk vc.nk vc.ck] 31 (0, 0))) → F 30 #[true, true, true, true, true, false, false, true, false, true, true, false, false, true, true, true, false, false, false, true, false, false, false, false, false, false, false, false, false, false, false, false, false, false, false, false, false, false, false, false, false, false] (Act.mk #[s0, s1, s2, .slice qe ev.length ce, .pointer (some ⟨A, 0, none⟩), .pointer (some ⟨B, 0, none⟩), .pointer (some ⟨C, 0, none⟩), s7, s8, .bool x, .bool y, .bool z, .bool (x && y), .bool (x || y), s14, s15, s16, s17, s18, s19, s20, s21, s22, s23, s24, s25, s26, s27, s28, s29, s30, s31, s32, s33, s34, s35, s36, s37, s38, s39, s40, s41, s42, s43, s44, s45, s46, s47, s48, s49, s50, s51, s52, s53, s54, s55, s56, s57, s58, s59, s60, s61, s62, s63, s64, s65, s66, s67, s68, s69, s70, s71, s72, s73, s74, s75, s76, s77, s78, s79, s80, s81, s82, s83, s84, s85, s86, s87, s88, s89, s90, s91, s92, s93, s94, s95, s96, s97, s98, s99, s100, s101, s102, s103, s104, s105, s106, s107, s108, s109, s110, s111, s112, s113, s114, .agg #[.int .i64 va.kind, .string va.attr, .slice va.qi va.ni va.ci, .slice va.qw va.nw va.cw, .int .i64 va.lo, .int .i64 va.hi, .int .i64 va.op, .slice va.qk va.nk va.ck], .agg #[.int .i64 vb.kind, .string vb.attr, .slice vb.qi vb.ni vb.ci, .slice vb.qw vb.nw vb.cw, .int .i64 vb.lo, .int .i64 vb.hi, .int .i64 vb.op, .slice vb.qk vb.nk vb.ck], .agg #[.int .i64 vc.kind, .string vc.attr, .slice vc.qi vc.ni vc.ci, .slice vc.qw vc.nw vc.cw, .int .i64 vc.lo, .int .i64 vc.hi, .int .i64 vc.op, .slice vc.qk vc.nk vc.ck], .slice (some ⟨M3, 0, none⟩) 2 2, .agg #[.int .i64 v4.kind, .string v4.attr, .slice v4.qi v4.ni v4.ci, .slice v4.qw v4.nw v4.cw, .int .i64 v4.lo, .int .i64 v4.hi, .int .i64 v4.op, .slice v4.qk v4.nk v4.ck], s120, s121, .slice qe ev.length ce, s123, .agg #[.int .i64 va.kind, .string va.attr, .slice va.qi va.ni va.ci, .slice va.qw va.nw va.cw, .int .i64 va.lo, .int .i64 va.hi, .int .i64 va.op, .slice va.qk va.nk va.ck], .agg #[.int .i64 vb.kind, .string vb.attr, .slice vb.qi vb.ni vb.ci, .slice vb.qw vb.nw vb.cw, .int .i64 vb.lo, .int .i64 vb.hi, .int .i64 vb.op, .slice vb.qk vb.nk vb.ck], s126, s127, .agg #[.int .i64 va.kind, .string va.attr, .slice va.qi va.ni va.ci, .slice va.qw va.nw va.cw, .int .i64 va.lo, .int .i64 va.hi, .int .i64 va.op, .slice va.qk va.nk va.ck], .agg #[.int .i64 vc.kind, .string vc.attr, .slice vc.qi vc.ni vc.ci, .slice vc.qw vc.nw vc.cw, .int .i64 vc.lo, .int .i64 vc.hi, .int .i64 vc.op, .slice vc.qk vc.nk vc.ck], .slice (some ⟨M15, 0, none⟩) 2 2, s131, s132, s133, .slice qe ev.length ce, s135, s136, s137, s138, s139, s140, s141, s142, s143, s144, s145, s146, s147, s148, s149, s150, s151, s152, s153, s154, s155] d) W) := hide (by
    intro W M3 v4 M15 R H3 F4 H15
    refine Eq.mpr (hF _ _ _ _) ?_
    have hHeld := KS W (unhide R)
    refine wpAnyH_ready (rs := [5, 11]) (by kernel_rfl) (by simp) ?_
    refine AllReadyH.cons (o := { dst := some 120, op := Op.buildSlice 22 2 #[(0, Operand.tmp 115), (1, Operand.tmp 119)], type := 22, pos := "law.go:63", after := #[{ on := 0, ground := Ground.data }, { on := 4, ground := Ground.data }], guard := none }) rfl (fun K hK => ?_) ?_
    · go_simp
      refine hK.out _ _ (KS _ ((unhide R).alloc (unhide R).size _)) (fun hHeld => ?_)
      clear hK K
      refine Eq.mp (hF _ _ _ _) ?_
      exact dp_to (unhide st16 (World.alloc W (.cells #[.int .i64 va.kind, .string va.attr, .slice va.qi va.ni va.ci, .slice va.qw va.nw va.cw, .int .i64 va.lo, .int .i64 va.hi, .int .i64 va.op, .slice va.qk va.nk va.ck, .int .i64 v4.kind, .string v4.attr, .slice v4.qi v4.ni v4.ci, .slice v4.qw v4.nw v4.cw, .int .i64 v4.lo, .int .i64 v4.hi, .int .i64 v4.op, .slice v4.qk v4.nk v4.ck] 31)) M3 v4 W.heap.size M15 (hide ((unhide R).alloc (unhide R).size _)) (hide (((((Below.refl W.heap.size W).alloc (Nat.le_refl _) (.cells #[.int .i64 va.kind, .string va.attr, .slice va.qi va.ni va.ci, .slice va.qw va.nw va.cw, .int .i64 va.lo, .int .i64 va.hi, .int .i64 va.op, .slice va.qk va.nk va.ck, .int .i64 v4.kind, .string v4.attr, .slice v4.qi v4.ni v4.ci, .slice v4.qw v4.nw v4.cw, .int .i64 v4.lo, .int .i64 v4.hi, .int .i64 v4.op, .slice v4.qk v4.nk v4.ck] 31))).block _ (heap_lt (unhide H3))).trans (unhide H3))) (hide ((unhide F4).keep (((Below.refl W.heap.size W).alloc (Nat.le_refl _) (.cells #[.int .i64 va.kind, .string va.attr, .slice va.qi va.ni va.ci, .slice va.qw va.nw va.cw, .int .i64 va.lo, .int .i64 va.hi, .int .i64 va.op, .slice va.qk va.nk va.ck, .int .i64 v4.kind, .string v4.attr, .slice v4.qi v4.ni v4.ci, .slice v4.qw v4.nw v4.cw, .int .i64 v4.lo, .int .i64 v4.hi, .int .i64 v4.op, .slice v4.qk v4.nk v4.ck] 31))))) (hide (box_nw _ _)) (hide (((((Below.refl W.heap.size W).alloc (Nat.le_refl _) (.cells #[.int .i64 va.kind, .string va.attr, .slice va.qi va.ni va.ci, .slice va.qw va.nw va.cw, .int .i64 va.lo, .int .i64 va.hi, .int .i64 va.op, .slice va.qk va.nk va.ck, .int .i64 v4.kind, .string v4.attr, .slice v4.qi v4.ni v4.ci, .slice v4.qw v4.nw v4.cw, .int .i64 v4.lo, .int .i64 v4.hi, .int .i64 v4.op, .slice v4.qk v4.nk v4.ck] 31))).block _ (heap_lt (unhide H15))).trans (unhide H15)))) (by kernel_rfl) rfl
    refine AllReadyH.cons (o := { dst := some 126, op := Op.buildSlice 22 2 #[(0, Operand.tmp 124), (1, Operand.tmp 125)], type := 22, pos := "law.go:63", after := #[{ on := 9, ground := Ground.data }, { on := 10, ground := Ground.data }], guard := none }) rfl (fun K hK => ?_) ?_
    · go_simp
      refine hK.out _ _ (KS _ ((unhide R).alloc (unhide R).size _)) (fun hHeld => ?_)
      clear hK K
      refine Eq.mp (hF _ _ _ _) ?_
      exact dp_to (unhide st18 (World.alloc W (.cells #[.int .i64 va.kind, .string va.attr, .slice va.qi va.ni va.ci, .slice va.qw va.nw va.cw, .int .i64 va.lo, .int .i64 va.hi, .int .i64 va.op, .slice va.qk va.nk va.ck, .int .i64 vb.kind, .string vb.attr, .slice vb.qi vb.ni vb.ci, .slice vb.qw vb.nw vb.cw, .int .i64 vb.lo, .int .i64 vb.hi, .int .i64 vb.op, .slice vb.qk vb.nk vb.ck] 31)) M3 v4 W.heap.size M15 (hide ((unhide R).alloc (unhide R).size _)) (hide (((((Below.refl W.heap.size W).alloc (Nat.le_refl _) (.cells #[.int .i64 va.kind, .string va.attr, .slice va.qi va.ni va.ci, .slice va.qw va.nw va.cw, .int .i64 va.lo, .int .i64 va.hi, .int .i64 va.op, .slice va.qk va.nk va.ck, .int .i64 vb.kind, .string vb.attr, .slice vb.qi vb.ni vb.ci, .slice vb.qw vb.nw vb.cw, .int .i64 vb.lo, .int .i64 vb.hi, .int .i64 vb.op, .slice vb.qk vb.nk vb.ck] 31))).block _ (heap_lt (unhide H3))).trans (unhide H3))) (hide ((unhide F4).keep (((Below.refl W.heap.size W).alloc (Nat.le_refl _) (.cells #[.int .i64 va.kind, .string va.attr, .slice va.qi va.ni va.ci, .slice va.qw va.nw va.cw, .int .i64 va.lo, .int .i64 va.hi, .int .i64 va.op, .slice va.qk va.nk va.ck, .int .i64 vb.kind, .string vb.attr, .slice vb.qi vb.ni vb.ci, .slice vb.qw vb.nw vb.cw, .int .i64 vb.lo, .int .i64 vb.hi, .int .i64 vb.op, .slice vb.qk vb.nk vb.ck] 31))))) (hide (box_nw _ _)) (hide (((((Below.refl W.heap.size W).alloc (Nat.le_refl _) (.cells #[.int .i64 va.kind, .string va.attr, .slice va.qi va.ni va.ci, .slice va.qw va.nw va.cw, .int .i64 va.lo, .int .i64 va.hi, .int .i64 va.op, .slice va.qk va.nk va.ck, .int .i64 vb.kind, .string vb.attr, .slice vb.qi vb.ni vb.ci, .slice vb.qw vb.nw vb.cw, .int .i64 vb.lo, .int .i64 vb.hi, .int .i64 vb.op, .slice vb.qk vb.nk vb.ck] 31))).block _ (heap_lt (unhide H15))).trans (unhide H15)))) (by kernel_rfl) rfl
    exact AllReadyH.nil
    )
  have st21 : Hid (∀ (W : World) (M3 : Nat) (v4 : Nv), Hid (Below U.heap.size U W) → Hid (W.heap[M3]? = some (.cells #[.int .i64 vb.kind, .string vb.attr, .slice vb.qi vb.ni vb.ci, .slice vb.qw vb.nw vb.cw, .int .i64 vb.lo, .int .i64 vb.hi, .int .i64 vb.op, .slice vb.qk vb.nk vb.ck, .int .i64 vc.kind, .string vc.attr, .slice vc.qi vc.ni vc.ci, .slice vc.qw vc.nw vc.cw, .int .i64 vc.lo, .int .i64 vc.hi, .int .i64 vc.op, .slice vc.qk vc.nk vc.ck] 31 (0, 0))) → Hid (NdIn W v4 (joinT 4 [b, c])) → F 31 #[true, true, true, true, true, false, false, true, false, true, true, false, false, true, true, false, false, false, false, true, false, false, false, false, false, false, false, false, false, false, false, false, false, false, false, false, false, false, false, false, false, false] (Act.mk #[s0, s1, s2, .slice qe ev.length ce, .pointer (some ⟨A, 0, none⟩), .pointer (some ⟨B, 0, none⟩), .pointer (some ⟨C, 0, none⟩), s7, s8, .bool x, .bool y, .bool z, .bool (x && y), .bool (x || y), s14, s15, s16, s17, s18, s19, s20, s21, s22, s23, s24, s25, s26, s27, s28, s29, s30, s31, s32, s33, s34, s35, s36, s37, s38, s39, s40, s41, s42, s43, s44, s45, s46, s47, s48, s49, s50, s51, s52, s53, s54, s55, s56, s57, s58, s59, s60, s61, s62, s63, s64, s65, s66, s67, s68, s69, s70, s71, s72, s73, s74, s75, s76, s77, s78, s79, s80, s81, s82, s83, s84, s85, s86, s87, s88, s89, s90, s91, s92, s93, s94, s95, s96, s97, s98, s99, s100, s101, s102, s103, s104, s105, s106, s107, s108, s109, s110, s111, s112, s113, s114, .agg #[.int .i64 va.kind, .string va.attr, .slice va.qi va.ni va.ci, .slice va.qw va.nw va.cw, .int .i64 va.lo, .int .i64 va.hi, .int .i64 va.op, .slice va.qk va.nk va.ck], .agg #[.int .i64 vb.kind, .string vb.attr, .slice vb.qi vb.ni vb.ci, .slice vb.qw vb.nw vb.cw, .int .i64 vb.lo, .int .i64 vb.hi, .int .i64 vb.op, .slice vb.qk vb.nk vb.ck], .agg #[.int .i64 vc.kind, .string vc.attr, .slice vc.qi vc.ni vc.ci, .slice vc.qw vc.nw vc.cw, .int .i64 vc.lo, .int .i64 vc.hi, .int .i64 vc.op, .slice vc.qk vc.nk vc.ck], .slice (some ⟨M3, 0, none⟩) 2 2, .agg #[.int .i64 v4.kind, .string v4.attr, .slice v4.qi v4.ni v4.ci, .slice v4.qw v4.nw v4.cw, .int .i64 v4.lo, .int .i64 v4.hi, .int .i64 v4.op, .slice v4.qk v4.nk v4.ck], s120, s121, .slice qe ev.length ce, s123, .agg #[.int .i64 va.kind, .string va.attr, .slice va.qi va.ni va.ci, .slice va.qw va.nw va.cw, .int .i64 va.lo, .int .i64 va.hi, .int .i64 va.op, .slice va.qk va.nk va.ck], .agg #[.int .i64 vb.kind, .string vb.attr, .slice vb.qi vb.ni vb.ci, .slice vb.qw vb.nw vb.cw, .int .i64 vb.lo, .int .i64 vb.hi, .int .i64 vb.op, .slice vb.qk vb.nk vb.ck], s126, s127, .agg #[.int .i64 va.kind, .string va.attr, .slice va.qi va.ni va.ci, .slice va.qw va.nw va.cw, .int .i64 va.lo, .int .i64 va.hi, .int .i64 va.op, .slice va.qk va.nk va.ck], .agg #[.int .i64 vc.kind, .string vc.attr, .slice vc.qi vc.ni vc.ci, .slice vc.qw vc.nw vc.cw, .int .i64 vc.lo, .int .i64 vc.hi, .int .i64 vc.op, .slice vc.qk vc.nk vc.ck], s130, s131, s132, s133, .slice qe ev.length ce, s135, s136, s137, s138, s139, s140, s141, s142, s143, s144, s145, s146, s147, s148, s149, s150, s151, s152, s153, s154, s155] d) W) := hide (by
    intro W M3 v4 R H3 F4
    refine Eq.mpr (hF _ _ _ _) ?_
    have hHeld := KS W (unhide R)
    refine wpAnyH_ready (rs := [5, 11, 15]) (by kernel_rfl) (by simp) ?_
    refine AllReadyH.cons (o := { dst := some 120, op := Op.buildSlice 22 2 #[(0, Operand.tmp 115), (1, Operand.tmp 119)], type := 22, pos := "law.go:63", after := #[{ on := 0, ground := Ground.data }, { on := 4, ground := Ground.data }], guard := none }) rfl (fun K hK => ?_) ?_
    · go_simp
      refine hK.out _ _ (KS _ ((unhide R).alloc (unhide R).size _)) (fun hHeld => ?_)
      clear hK K
      refine Eq.mp (hF _ _ _ _) ?_
      exact dp_to (unhide st17 (World.alloc W (.cells #[.int .i64 va.kind, .string va.attr, .slice va.qi va.ni va.ci, .slice va.qw va.nw va.cw, .int .i64 va.lo, .int .i64 va.hi, .int .i64 va.op, .slice va.qk va.nk va.ck, .int .i64 v4.kind, .string v4.attr, .slice v4.qi v4.ni v4.ci, .slice v4.qw v4.nw v4.cw, .int .i64 v4.lo, .int .i64 v4.hi, .int .i64 v4.op, .slice v4.qk v4.nk v4.ck] 31)) M3 v4 W.heap.size (hide ((unhide R).alloc (unhide R).size _)) (hide (((((Below.refl W.heap.size W).alloc (Nat.le_refl _) (.cells #[.int .i64 va.kind, .string va.attr, .slice va.qi va.ni va.ci, .slice va.qw va.nw va.cw, .int .i64 va.lo, .int .i64 va.hi, .int .i64 va.op, .slice va.qk va.nk va.ck, .int .i64 v4.kind, .string v4.attr, .slice v4.qi v4.ni v4.ci, .slice v4.qw v4.nw v4.cw, .int .i64 v4.lo, .int .i64 v4.hi, .int .i64 v4.op, .slice v4.qk v4.nk v4.ck] 31))).block _ (heap_lt (unhide H3))).trans (unhide H3))) (hide ((unhide F4).keep (((Below.refl W.heap.size W).alloc (Nat.le_refl _) (.cells #[.int .i64 va.kind, .string va.attr, .slice va.qi va.ni va.ci, .slice va.qw va.nw va.cw, .int .i64 va.lo, .int .i64 va.hi, .int .i64 va.op, .slice va.qk va.nk va.ck, .int .i64 v4.kind, .string v4.attr, .slice v4.qi v4.ni v4.ci, .slice v4.qw v4.nw v4.cw, .int .i64 v4.lo, .int .i64 v4.hi, .int .i64 v4.op, .slice v4.qk v4.nk v4.ck] 31))))) (hide (box_nw _ _))) (by kernel_rfl) rfl
    refine AllReadyH.cons (o := { dst := some 126, op := Op.buildSlice 22 2 #[(0, Operand.tmp 124), (1, Operand.tmp 125)], type := 22, pos := "law.go:63", after := #[{ on := 9, ground := Ground.data }, { on := 10, ground := Ground.data }], guard := none }) rfl (fun K hK => ?_) ?_
    · go_simp
      refine hK.out _ _ (KS _ ((unhide R).alloc (unhide R).size _)) (fun hHeld => ?_)
      clear hK K
      refine Eq.mp (hF _ _ _ _) ?_
      exact dp_to (unhide st19 (World.alloc W (.cells #[.int .i64 va.kind, .string va.attr, .slice va.qi va.ni va.ci, .slice va.qw va.nw va.cw, .int .i64 va.lo, .int .i64 va.hi, .int .i64 va.op, .slice va.qk va.nk va.ck, .int .i64 vb.kind, .string vb.attr, .slice vb.qi vb.ni vb.ci, .slice vb.qw vb.nw vb.cw, .int .i64 vb.lo, .int .i64 vb.hi, .int .i64 vb.op, .slice vb.qk vb.nk vb.ck] 31)) M3 v4 W.heap.size (hide ((unhide R).alloc (unhide R).size _)) (hide (((((Below.refl W.heap.size W).alloc (Nat.le_refl _) (.cells #[.int .i64 va.kind, .string va.attr, .slice va.qi va.ni va.ci, .slice va.qw va.nw va.cw, .int .i64 va.lo, .int .i64 va.hi, .int .i64 va.op, .slice va.qk va.nk va.ck, .int .i64 vb.kind, .string vb.attr, .slice vb.qi vb.ni vb.ci, .slice vb.qw vb.nw vb.cw, .int .i64 vb.lo, .int .i64 vb.hi, .int .i64 vb.op, .slice vb.qk vb.nk vb.ck] 31))).block _ (heap_lt (unhide H3))).trans (unhide H3))) (hide ((unhide F4).keep (((Below.refl W.heap.size W).alloc (Nat.le_refl _) (.cells #[.int .i64 va.kind, .string va.attr, .slice va.qi va.ni va.ci, .slice va.qw va.nw va.cw, .int .i64 va.lo, .int .i64 va.hi, .int .i64 va.op, .slice va.qk va.nk va.ck, .int .i64 vb.kind, .string vb.attr, .slice vb.qi vb.ni vb.ci, .slice vb.qw vb.nw vb.cw, .int .i64 vb.lo, .int .i64 vb.hi, .int .i64 vb.op, .slice vb.qk vb.nk vb.ck] 31))))) (hide (box_nw _ _))) (by kernel_rfl) rfl
    refine AllReadyH.cons (o := { dst := some 130, op := Op.buildSlice 22 2 #[(0, Operand.tmp 128), (1, Operand.tmp 129)], type := 22, pos := "law.go:63", after := #[{ on := 13, ground := Ground.data }, { on := 14, ground := Ground.data }], guard := none }) rfl (fun K hK => ?_) ?_
    · go_simp
      refine hK.out _ _ (KS _ ((unhide R).alloc (unhide R).size _)) (fun hHeld => ?_)
      clear hK K
      refine Eq.mp (hF _ _ _ _) ?_
      exact dp_to (unhide st20 (World.alloc W (.cells #[.int .i64 va.kind, .string va.attr, .slice va.qi va.ni va.ci, .slice va.qw va.nw va.cw, .int .i64 va.lo, .int .i64 va.hi, .int .i64 va.op, .slice va.qk va.nk va.ck, .int .i64 vc.kind, .string vc.attr, .slice vc.qi vc.ni vc.ci, .slice vc.qw vc.nw vc.cw, .int .i64 vc.lo, .int .i64 vc.hi, .int .i64 vc.op, .slice vc.qk vc.nk vc.ck] 31)) M3 v4 W.heap.size (hide ((unhide R).alloc (unhide R).size _)) (hide (((((Below.refl W.heap.size W).alloc (Nat.le_refl _) (.cells #[.int .i64 va.kind, .string va.attr, .slice va.qi va.ni va.ci, .slice va.qw va.nw va.cw, .int .i64 va.lo, .int .i64 va.hi, .int .i64 va.op, .slice va.qk va.nk va.ck, .int .i64 vc.kind, .string vc.attr, .slice vc.qi vc.ni vc.ci, .slice vc.qw vc.nw vc.cw, .int .i64 vc.lo, .int .i64 vc.hi, .int .i64 vc.op, .slice vc.qk vc.nk vc.ck] 31))).block _ (heap_lt (unhide H3))).trans (unhide H3))) (hide ((unhide F4).keep (((Below.refl W.heap.size W).alloc (Nat.le_refl _) (.cells #[.int .i64 va.kind, .string va.attr, .slice va.qi va.ni va.ci, .slice va.qw va.nw va.cw, .int .i64 va.lo, .int .i64 va.hi, .int .i64 va.op, .slice va.qk va.nk va.ck, .int .i64 vc.kind, .string vc.attr, .slice vc.qi vc.ni vc.ci, .slice vc.qw vc.nw vc.cw, .int .i64 vc.lo, .int .i64 vc.hi, .int .i64 vc.op, .slice vc.qk vc.nk vc.ck] 31))))) (hide (box_nw _ _))) (by kernel_rfl) rfl
    exact AllReadyH.nil
    )
  have st22 : Hid (∀ (W : World) (M3 : Nat) (M11 : Nat) (M15 : Nat), Hid (Below U.heap.size U W) → Hid (W.heap[M3]? = some (.cells #[.int .i64 vb.kind, .string vb.attr, .slice vb.qi vb.ni vb.ci, .slice vb.qw vb.nw vb.cw, .int .i64 vb.lo, .int .i64 vb.hi, .int .i64 vb.op, .slice vb.qk vb.nk vb.ck, .int .i64 vc.kind, .string vc.attr, .slice vc.qi vc.ni vc.ci, .slice vc.qw vc.nw vc.cw, .int .i64 vc.lo, .int .i64 vc.hi, .int .i64 vc.op, .slice vc.qk vc.nk vc.ck] 31 (0, 0))) → Hid (W.heap[M11]? = some (.cells #[.int .i64 va.kind, .string va.attr, .slice va.qi va.ni va.ci, .slice va.qw va.nw va.cw, .int .i64 va.lo, .int .i64 va.hi, .int .i64 va.op, .slice va.qk va.nk va.ck, .int .i64 vb.kind, .string vb.attr, .slice vb.qi vb.ni vb.ci, .slice vb.qw vb.nw vb.cw, .int .i64 vb.lo, .int .i64 vb.hi, .int .i64 vb.op, .slice vb.qk vb.nk vb.ck] 31 (0, 0))) → Hid (W.heap[M15]? = some (.cells #[.int .i64 va.kind, .string va.attr, .slice va.qi va.ni va.ci, .slice va.qw va.nw va.cw, .int .i64 va.lo, .int .i64 va.hi, .int .i64 va.op, .slice va.qk va.nk va.ck, .int .i64 vc.kind, .string vc.attr, .slice vc.qi vc.ni vc.ci, .slice vc.qw vc.nw vc.cw, .int .i64 vc.lo, .int .i64 vc.hi, .int .i64 vc.op, .slice vc.qk vc.nk vc.ck] 31 (0, 0))) → F 30 #[true, true, true, true, false, false, false, true, false, true, true, true, false, true, true, true, false, false, false, true, false, false, false, false, false, false, false, false, false, false, false, false, false, false, false, false, false, false, false, false, false, false] (Act.mk #[s0, s1, s2, .slice qe ev.length ce, .pointer (some ⟨A, 0, none⟩), .pointer (some ⟨B, 0, none⟩), .pointer (some ⟨C, 0, none⟩), s7, s8, .bool x, .bool y, .bool z, .bool (x && y), .bool (x || y), s14, s15, s16, s17, s18, s19, s20, s21, s22, s23, s24, s25, s26, s27, s28, s29, s30, s31, s32, s33, s34, s35, s36, s37, s38, s39, s40, s41, s42, s43, s44, s45, s46, s47, s48, s49, s50, s51, s52, s53, s54, s55, s56, s57, s58, s59, s60, s61, s62, s63, s64, s65, s66, s67, s68, s69, s70, s71, s72, s73, s74, s75, s76, s77, s78, s79, s80, s81, s82, s83, s84, s85, s86, s87, s88, s89, s90, s91, s92, s93, s94, s95, s96, s97, s98, s99, s100, s101, s102, s103, s104, s105, s106, s107, s108, s109, s110, s111, s112, s113, s114, .agg #[.int .i64 va.kind, .string va.attr, .slice va.qi va.ni va.ci, .slice va.qw va.nw va.cw, .int .i64 va.lo, .int .i64 va.hi, .int .i64 va.op, .slice va.qk va.nk va.ck], .agg #[.int .i64 vb.kind, .string vb.attr, .slice vb.qi vb.ni vb.ci, .slice vb.qw vb.nw vb.cw, .int .i64 vb.lo, .int .i64 vb.hi, .int .i64 vb.op, .slice vb.qk vb.nk vb.ck], .agg #[.int .i64 vc.kind, .string vc.attr, .slice vc.qi vc.ni vc.ci, .slice vc.qw vc.nw vc.cw, .int .i64 vc.lo, .int .i64 vc.hi, .int .i64 vc.op, .slice vc.qk vc.nk vc.ck], .slice (some ⟨M3, 0, none⟩) 2 2, s119, s120, s121, .slice qe ev.length ce, s123, .agg #[.int .i64 va.kind, .string va.attr, .slice va.qi va.ni va.ci, .slice va.qw va.nw va.cw, .int .i64 va.lo, .int .i64 va.hi, .int .i64 va.op, .slice va.qk va.nk va.ck], .agg #[.int .i64 vb.kind, .string vb.attr, .slice vb.qi vb.ni vb.ci, .slice vb.qw vb.nw vb.cw, .int .i64 vb.lo, .int .i64 vb.hi, .int .i64 vb.op, .slice vb.qk vb.nk vb.ck], .slice (some ⟨M11, 0, none⟩) 2 2, s127, .agg #[.int .i64 va.kind, .string va.attr, .slice va.qi va.ni va.ci, .slice va.qw va.nw va.cw, .int .i64 va.lo, .int .i64 va.hi, .int .i64 va.op, .slice va.qk va.nk va.ck], .agg #[.int .i64 vc.kind, .string vc.attr, .slice vc.qi vc.ni vc.ci, .slice vc.qw vc.nw vc.cw, .int .i64 vc.lo, .int .i64 vc.hi, .int .i64 vc.op, .slice vc.qk vc.nk vc.ck], .slice (some ⟨M15, 0, none⟩) 2 2, s131, s132, s133, .slice qe ev.length ce, s135, s136, s137, s138, s139, s140, s141, s142, s143, s144, s145, s146, s147, s148, s149, s150, s151, s152, s153, s154, s155] d) W) := hide (by
    intro W M3 M11 M15 R H3 H11 H15
    refine Eq.mpr (hF _ _ _ _) ?_
    have hHeld := KS W (unhide R)
    refine wpAnyH_ready (rs := [4]) (by kernel_rfl) (by simp) ?_
    refine AllReadyH.cons (o := { dst := some 119, op := Op.call { callee := Callee.value (Operand.func 20), args := #[Operand.tmp 118], argTypes := #[22] }, type := 31, pos := "law.go:63", after := #[{ on := 3, ground := Ground.data }], guard := none }) rfl (fun K hK => ?_) ?_
    · go_simp
      refine (cOr b c vb vc M3 _ (unhide H3) ((unhide Nb).keep (unhide R)) ((unhide Nc).keep (unhide R)) (by have := unhide HW; omega)).mono ?_
      rintro e W1 ⟨⟨v4, rfl, bn⟩, bb⟩
      simp only [Nv.val]
      refine hK.out _ _ (KS _ (below_sub (unhide R) bb)) (fun hHeld => ?_)
      clear hK K
      refine Eq.mp (hF _ _ _ _) ?_
      exact dp_to (unhide st18 W1 M3 v4 M11 M15 (hide (below_sub (unhide R) bb)) (hide (((bb).block _ (heap_lt (unhide H3))).trans (unhide H3))) (hide bn.toIn) (hide (((bb).block _ (heap_lt (unhide H11))).trans (unhide H11))) (hide (((bb).block _ (heap_lt (unhide H15))).trans (unhide H15)))) (by kernel_rfl) rfl
    exact AllReadyH.nil
    )
  have st23 : Hid (∀ (W : World) (M3 : Nat) (M11 : Nat), Hid (Below U.heap.size U W) → Hid (W.heap[M3]? = some (.cells #[.int .i64 vb.kind, .string vb.attr, .slice vb.qi vb.ni vb.ci, .slice vb.qw vb.nw vb.cw, .int .i64 vb.lo, .int .i64 vb.hi, .int .i64 vb.op, .slice vb.qk vb.nk vb.ck, .int .i64 vc.kind, .string vc.attr, .slice vc.qi vc.ni vc.ci, .slice vc.qw vc.nw vc.cw, .int .i64 vc.lo, .int .i64 vc.hi, .int .i64 vc.op, .slice vc.qk vc.nk vc.ck] 31 (0, 0))) → Hid (W.heap[M11]? = some (.cells #[.int .i64 va.kind, .string va.attr, .slice va.qi va.ni va.ci, .slice va.qw va.nw va.cw, .int .i64 va.lo, .int .i64 va.hi, .int .i64 va.op, .slice va.qk va.nk va.ck, .int .i64 vb.kind, .string vb.attr, .slice vb.qi vb.ni vb.ci, .slice vb.qw vb.nw vb.cw, .int .i64 vb.lo, .int .i64 vb.hi, .int .i64 vb.op, .slice vb.qk vb.nk vb.ck] 31 (0, 0))) → F 31 #[true, true, true, true, false, false, false, true, false, true, true, true, false, true, true, false, false, false, false, true, false, false, false, false, false, false, false, false, false, false, false, false, false, false, false, false, false, false, false, false, false, false] (Act.mk #[s0, s1, s2, .slice qe ev.length ce, .pointer (some ⟨A, 0, none⟩), .pointer (some ⟨B, 0, none⟩), .pointer (some ⟨C, 0, none⟩), s7, s8, .bool x, .bool y, .bool z, .bool (x && y), .bool (x || y), s14, s15, s16, s17, s18, s19, s20, s21, s22, s23, s24, s25, s26, s27, s28, s29, s30, s31, s32, s33, s34, s35, s36, s37, s38, s39, s40, s41, s42, s43, s44, s45, s46, s47, s48, s49, s50, s51, s52, s53, s54, s55, s56, s57, s58, s59, s60, s61, s62, s63, s64, s65, s66, s67, s68, s69, s70, s71, s72, s73, s74, s75, s76, s77, s78, s79, s80, s81, s82, s83, s84, s85, s86, s87, s88, s89, s90, s91, s92, s93, s94, s95, s96, s97, s98, s99, s100, s101, s102, s103, s104, s105, s106, s107, s108, s109, s110, s111, s112, s113, s114, .agg #[.int .i64 va.kind, .string va.attr, .slice va.qi va.ni va.ci, .slice va.qw va.nw va.cw, .int .i64 va.lo, .int .i64 va.hi, .int .i64 va.op, .slice va.qk va.nk va.ck], .agg #[.int .i64 vb.kind, .string vb.attr, .slice vb.qi vb.ni vb.ci, .slice vb.qw vb.nw vb.cw, .int .i64 vb.lo, .int .i64 vb.hi, .int .i64 vb.op, .slice vb.qk vb.nk vb.ck], .agg #[.int .i64 vc.kind, .string vc.attr, .slice vc.qi vc.ni vc.ci, .slice vc.qw vc.nw vc.cw, .int .i64 vc.lo, .int .i64 vc.hi, .int .i64 vc.op, .slice vc.qk vc.nk vc.ck], .slice (some ⟨M3, 0, none⟩) 2 2, s119, s120, s121, .slice qe ev.length ce, s123, .agg #[.int .i64 va.kind, .string va.attr, .slice va.qi va.ni va.ci, .slice va.qw va.nw va.cw, .int .i64 va.lo, .int .i64 va.hi, .int .i64 va.op, .slice va.qk va.nk va.ck], .agg #[.int .i64 vb.kind, .string vb.attr, .slice vb.qi vb.ni vb.ci, .slice vb.qw vb.nw vb.cw, .int .i64 vb.lo, .int .i64 vb.hi, .int .i64 vb.op, .slice vb.qk vb.nk vb.ck], .slice (some ⟨M11, 0, none⟩) 2 2, s127, .agg #[.int .i64 va.kind, .string va.attr, .slice va.qi va.ni va.ci, .slice va.qw va.nw va.cw, .int .i64 va.lo, .int .i64 va.hi, .int .i64 va.op, .slice va.qk va.nk va.ck], .agg #[.int .i64 vc.kind, .string vc.attr, .slice vc.qi vc.ni vc.ci, .slice vc.qw vc.nw vc.cw, .int .i64 vc.lo, .int .i64 vc.hi, .int .i64 vc.op, .slice vc.qk vc.nk vc.ck], s130, s131, s132, s133, .slice qe ev.length ce, s135, s136, s137, s138, s139, s140, s141, s142, s143, s144, s145, s146, s147, s148, s149, s150, s151, s152, s153, s154, s155] d) W) := hide (by
    intro W M3 M11 R H3 H11
    refine Eq.mpr (hF _ _ _ _) ?_
    have hHeld := KS W (unhide R)
    refine wpAnyH_ready (rs := [4, 15]) (by kernel_rfl) (by simp) ?_
    refine AllReadyH.cons (o := { dst := some 119, op := Op.call { callee := Callee.value (Operand.func 20), args := #[Operand.tmp 118], argTypes := #[22] }, type := 31, pos := "law.go:63", after := #[{ on := 3, ground := Ground.data }], guard := none }) rfl (fun K hK => ?_) ?_
    · go_simp
      refine (cOr b c vb vc M3 _ (unhide H3) ((unhide Nb).keep (unhide R)) ((unhide Nc).keep (unhide R)) (by have := unhide HW; omega)).mono ?_
      rintro e W1 ⟨⟨v4, rfl, bn⟩, bb⟩
      simp only [Nv.val]
      refine hK.out _ _ (KS _ (below_sub (unhide R) bb)) (fun hHeld => ?_)
      clear hK K
      refine Eq.mp (hF _ _ _ _) ?_
      exact dp_to (unhide st19 W1 M3 v4 M11 (hide (below_sub (unhide R) bb)) (hide (((bb).block _ (heap_lt (unhide H3))).trans (unhide H3))) (hide bn.toIn) (hide (((bb).block _ (heap_lt (unhide H11))).trans (unhide H11)))) (by kernel_rfl) rfl
    refine AllReadyH.cons (o := { dst := some 130, op := Op.buildSlice 22 2 #[(0, Operand.tmp 128), (1, Operand.tmp 129)], type := 22, pos := "law.go:63", after := #[{ on := 13, ground := Ground.data }, { on := 14, ground := Ground.data }], guard := none }) rfl (fun K hK => ?_) ?_
    · go_simp
      refine hK.out _ _ (KS _ ((unhide R).alloc (unhide R).size _)) (fun hHeld => ?_)
      clear hK K
      refine Eq.mp (hF _ _ _ _) ?_
      exact dp_to (unhide st22 (World.alloc W (.cells #[.int .i64 va.kind, .string va.attr, .slice va.qi va.ni va.ci, .slice va.qw va.nw va.cw, .int .i64 va.lo, .int .i64 va.hi, .int .i64 va.op, .slice va.qk va.nk va.ck, .int .i64 vc.kind, .string vc.attr, .slice vc.qi vc.ni vc.ci, .slice vc.qw vc.nw vc.cw, .int .i64 vc.lo, .int .i64 vc.hi, .int .i64 vc.op, .slice vc.qk vc.nk vc.ck] 31)) M3 M11 W.heap.size (hide ((unhide R).alloc (unhide R).size _)) (hide (((((Below.refl W.heap.size W).alloc (Nat.le_refl _) (.cells #[.int .i64 va.kind, .string va.attr, .slice va.qi va.ni va.ci, .slice va.qw va.nw va.cw, .int .i64 va.lo, .int .i64 va.hi, .int .i64 va.op, .slice va.qk va.nk va.ck, .int .i64 vc.kind, .string vc.attr, .slice vc.qi vc.ni vc.ci, .slice vc.qw vc.nw vc.cw, .int .i64 vc.lo, .int .i64 vc.hi, .int .i64 vc.op, .slice vc.qk vc.nk vc.ck] 31))).block _ (heap_lt (unhide H3))).trans (unhide H3))) (hide (((((Below.refl W.heap.size W).alloc (Nat.le_refl _) (.cells #[.int .i64 va.kind, .string va.attr, .slice va.qi va.ni va.ci, .slice va.qw va.nw va.cw, .int .i64 va.lo, .int .i64 va.hi, .int .i64 va.op, .slice va.qk va.nk va.ck, .int .i64 vc.kind, .string vc.attr, .slice vc.qi vc.ni vc.ci, .slice vc.qw vc.nw vc.cw, .int .i64 vc.lo, .int .i64 vc.hi, .int .i64 vc.op, .slice vc.qk vc.nk vc.ck] 31))).block _ (heap_lt (unhide H11))).trans (unhide H11))) (hide (box_nw _ _))) (by kernel_rfl) rfl
    exact AllReadyH.nil
    )
  have st24 : Hid (∀ (W : World) (M3 : Nat) (M15 : Nat), Hid (Below U.heap.size U W) → Hid (W.heap[M3]? = some (.cells #[.int .i64 vb.kind, .string vb.attr, .slice vb.qi vb.ni vb.ci, .slice vb.qw vb.nw vb.cw, .int .i64 vb.lo, .int .i64 vb.hi, .int .i64 vb.op, .slice vb.qk vb.nk vb.ck, .int .i64 vc.kind, .string vc.attr, .slice vc.qi vc.ni vc.ci, .slice vc.qw vc.nw vc.cw, .int .i64 vc.lo, .int .i64 vc.hi, .int .i64 vc.op, .slice vc.qk vc.nk vc.ck] 31 (0, 0))) → Hid (W.heap[M15]? = some (.cells #[.int .i64 va.kind, .string va.attr, .slice va.qi va.ni va.ci, .slice va.qw va.nw va.cw, .int .i64 va.lo, .int .i64 va.hi, .int .i64 va.op, .slice va.qk va.nk va.ck, .int .i64 vc.kind, .string vc.attr, .slice vc.qi vc.ni vc.ci, .slice vc.qw vc.nw vc.cw, .int .i64 vc.lo, .int .i64 vc.hi, .int .i64 vc.op, .slice vc.qk vc.nk vc.ck] 31 (0, 0))) → F 31 #[true, true, true, true, false, false, false, true, false, true, true, false, false, true, true, true, false, false, false, true, false, false, false, false, false, false, false, false, false, false, false, false, false, false, false, false, false, false, false, false, false, false] (Act.mk #[s0, s1, s2, .slice qe ev.length ce, .pointer (some ⟨A, 0, none⟩), .pointer (some ⟨B, 0, none⟩), .pointer (some ⟨C, 0, none⟩), s7, s8, .bool x, .bool y, .bool z, .bool (x && y), .bool (x || y), s14, s15, s16, s17, s18, s19, s20, s21, s22, s23, s24, s25, s26, s27, s28, s29, s30, s31, s32, s33, s34, s35, s36, s37, s38, s39, s40, s41, s42, s43, s44, s45, s46, s47, s48, s49, s50, s51, s52, s53, s54, s55, s56, s57, s58, s59, s60, s61, s62, s63, s64, s65, s66, s67, s68, s69, s70, s71, s72, s73, s74, s75, s76, s77, s78, s79, s80, s81, s82, s83, s84, s85, s86, s87, s88, s89, s90, s91, s92, s93, s94, s95, s96, s97, s98, s99, s100, s101, s102, s103, s104, s105, s106, s107, s108, s109, s110, s111, s112, s113, s114, .agg #[.int .i64 va.kind, .string va.attr, .slice va.qi va.ni va.ci, .slice va.qw va.nw va.cw, .int .i64 va.lo, .int .i64 va.hi, .int .i64 va.op, .slice va.qk va.nk va.ck], .agg #[.int .i64 vb.kind, .string vb.attr, .slice vb.qi vb.ni vb.ci, .slice vb.qw vb.nw vb.cw, .int .i64 vb.lo, .int .i64 vb.hi, .int .i64 vb.op, .slice vb.qk vb.nk vb.ck], .agg #[.int .i64 vc.kind, .string vc.attr, .slice vc.qi vc.ni vc.ci, .slice vc.qw vc.nw vc.cw, .int .i64 vc.lo, .int .i64 vc.hi, .int .i64 vc.op, .slice vc.qk vc.nk vc.ck], .slice (some ⟨M3, 0, none⟩) 2 2, s119, s120, s121, .slice qe ev.length ce, s123, .agg #[.int .i64 va.kind, .string va.attr, .slice va.qi va.ni va.ci, .slice va.qw va.nw va.cw, .int .i64 va.lo, .int .i64 va.hi, .int .i64 va.op, .slice va.qk va.nk va.ck], .agg #[.int .i64 vb.kind, .string vb.attr, .slice vb.qi vb.ni vb.ci, .slice vb.qw vb.nw vb.cw, .int .i64 vb.lo, .int .i64 vb.hi, .int .i64 vb.op, .slice vb.qk vb.nk vb.ck], s126, s127, .agg #[.int .i64 va.kind, .string va.attr, .slice va.qi va.ni va.ci, .slice va.qw va.nw va.cw, .int .i64 va.lo, .int .i64 va.hi, .int .i64 va.op, .slice va.qk va.nk va.ck], .agg #[.int .i64 vc.kind, .string vc.attr, .slice vc.qi vc.ni vc.ci, .slice vc.qw vc.nw vc.cw, .int .i64 vc.lo, .int .i64 vc.hi, .int .i64 vc.op, .slice vc.qk vc.nk vc.ck], .slice (some ⟨M15, 0, none⟩) 2 2, s131, s132, s133, .slice qe ev.length ce, s135, s136, s137, s138, s139, s140, s141, s142, s143, s144, s145, s146, s147, s148, s149, s150, s151, s152, s153, s154, s155] d) W) := hide (by
    intro W M3 M15 R H3 H15
    refine Eq.mpr (hF _ _ _ _) ?_
    have hHeld := KS W (unhide R)
    refine wpAnyH_ready (rs := [4, 11]) (by kernel_rfl) (by simp) ?_
    refine AllReadyH.cons (o := { dst := some 119, op := Op.call { callee := Callee.value (Operand.func 20), args := #[Operand.tmp 118], argTypes := #[22] }, type := 31, pos := "law.go:63", after := #[{ on := 3, ground := Ground.data }], guard := none }) rfl (fun K hK => ?_) ?_
    · go_simp
      refine (cOr b c vb vc M3 _ (unhide H3) ((unhide Nb).keep (unhide R)) ((unhide Nc).keep (unhide R)) (by have := unhide HW; omega)).mono ?_
      rintro e W1 ⟨⟨v4, rfl, bn⟩, bb⟩
      simp only [Nv.val]
      refine hK.out _ _ (KS _ (below_sub (unhide R) bb)) (fun hHeld => ?_)
      clear hK K
      refine Eq.mp (hF _ _ _ _) ?_
      exact dp_to (unhide st20 W1 M3 v4 M15 (hide (below_sub (unhide R) bb)) (hide (((bb).block _ (heap_lt (unhide H3))).trans (unhide H3))) (hide bn.toIn) (hide (((bb).block _ (heap_lt (unhide H15))).trans (unhide H15)))) (by kernel_rfl) rfl
    refine AllReadyH.cons (o := { dst := some 126, op := Op.buildSlice 22 2 #[(0, Operand.tmp 124), (1, Operand.tmp 125)], type := 22, pos := "law.go:63", after := #[{ on := 9, ground := Ground.data }, { on := 10, ground := Ground.data }], guard := none }) rfl (fun K hK => ?_) ?_
    · go_simp
      refine hK.out _ _ (KS _ ((unhide R).alloc (unhide R).size _)) (fun hHeld => ?_)
      clear hK K
      refine Eq.mp (hF _ _ _ _) ?_
      exact dp_to (unhide st22 (World.alloc W (.cells #[.int .i64 va.kind, .string va.attr, .slice va.qi va.ni va.ci, .slice va.qw va.nw va.cw, .int .i64 va.lo, .int .i64 va.hi, .int .i64 va.op, .slice va.qk va.nk va.ck, .int .i64 vb.kind, .string vb.attr, .slice vb.qi vb.ni vb.ci, .slice vb.qw vb.nw vb.cw, .int .i64 vb.lo, .int .i64 vb.hi, .int .i64 vb.op, .slice vb.qk vb.nk vb.ck] 31)) M3 W.heap.size M15 (hide ((unhide R).alloc (unhide R).size _)) (hide (((((Below.refl W.heap.size W).alloc (Nat.le_refl _) (.cells #[.int .i64 va.kind, .string va.attr, .slice va.qi va.ni va.ci, .slice va.qw va.nw va.cw, .int .i64 va.lo, .int .i64 va.hi, .int .i64 va.op, .slice va.qk va.nk va.ck, .int .i64 vb.kind, .string vb.attr, .slice vb.qi vb.ni vb.ci, .slice vb.qw vb.nw vb.cw, .int .i64 vb.lo, .int .i64 vb.hi, .int .i64 vb.op, .slice vb.qk vb.nk vb.ck] 31))).block _ (heap_lt (unhide H3))).trans (unhide H3))) (hide (box_nw _ _)) (hide (((((Below.refl W.heap.size W).alloc (Nat.le_refl _) (.cells #[.int .i64 va.kind, .string va.attr, .slice va.qi va.ni va.ci, .slice va.qw va.nw va.cw, .int .i64 va.lo, .int .i64 va.hi, .int .i64 va.op, .slice va.qk va.nk va.ck, .int .i64 vb.kind, .string vb.attr, .slice vb.qi vb.ni vb.ci, .slice vb.qw vb.nw vb.cw, .int .i64 vb.lo, .int .i64 vb.hi, .int .i64 vb.op, .slice vb.qk vb.nk vb.ck] 31))).block _ (heap_lt (unhide H15))).trans (unhide H15)))) (by kernel_rfl) rfl
    exact AllReadyH.nil
    )
  have st25 : Hid (∀ (W : World) (M3 : Nat), Hid (Below U.heap.size U W) → Hid (W.heap[M3]? = some (.cells #[.int .i64 vb.kind, .string vb.attr, .slice vb.qi vb.ni vb.ci, .slice vb.qw vb.nw vb.cw, .int .i64 vb.lo, .int .i64 vb.hi, .int .i64 vb.op, .slice vb.qk vb.nk vb.ck, .int .i64 vc.kind, .string vc.attr, .slice vc.qi vc.ni vc.ci, .slice vc.qw vc.nw vc.cw, .int .i64 vc.lo, .int .i64 vc.hi, .int .i64 vc.op, .slice vc.qk vc.nk vc.ck] 31 (0, 0))) → F 32 #[true, true, true, true, false, false, false, true, false, true, true, false, false, true, true, false, false, false, false, true, false, false, false, false, false, false, false, false, false, false, false, false, false, false, false, false, false, false, false, false, false, false] (Act.mk #[s0, s1, s2, .slice qe ev.length ce, .pointer (some ⟨A, 0, none⟩), .pointer (some ⟨B, 0, none⟩), .pointer (some ⟨C, 0, none⟩), s7, s8, .bool x, .bool y, .bool z, .bool (x && y), .bool (x || y), s14, s15, s16, s17, s18, s19, s20, s21, s22, s23, s24, s25, s26, s27, s28, s29, s30, s31, s32, s33, s34, s35, s36, s37, s38, s39, s40, s41, s42, s43, s44, s45, s46, s47, s48, s49, s50, s51, s52, s53, s54, s55, s56, s57, s58, s59, s60, s61, s62, s63, s64, s65, s66, s67, s68, s69, s70, s71, s72, s73, s74, s75, s76, s77, s78, s79, s80, s81, s82, s83, s84, s85, s86, s87, s88, s89, s90, s91, s92, s93, s94, s95, s96, s97, s98, s99, s100, s101, s102, s103, s104, s105, s106, s107, s108, s109, s110, s111, s112, s113, s114, .agg #[.int .i64 va.kind, .string va.attr, .slice va.qi va.ni va.ci, .slice va.qw va.nw va.cw, .int .i64 va.lo, .int .i64 va.hi, .int .i64 va.op, .slice va.qk va.nk va.ck], .agg #[.int .i64 vb.kind, .string vb.attr, .slice vb.qi vb.ni vb.ci, .slice vb.qw vb.nw vb.cw, .int .i64 vb.lo, .int .i64 vb.hi, .int .i64 vb.op, .slice vb.qk vb.nk vb.ck], .agg #[.int .i64 vc.kind, .string vc.attr, .slice vc.qi vc.ni vc.ci, .slice vc.qw vc.nw vc.cw, .int .i64 vc.lo, .int .i64 vc.hi, .int .i64 vc.op, .slice vc.qk vc.nk vc.ck], .slice (some ⟨M3, 0, none⟩) 2 2, s119, s120, s121, .slice qe ev.length ce, s123, .agg #[.int .i64 va.kind, .string va.attr, .slice va.qi va.ni va.ci, .slice va.qw va.nw va.cw, .int .i64 va.lo, .int .i64 va.hi, .int .i64 va.op, .slice va.qk va.nk va.ck], .agg #[.int .i64 vb.kind, .string vb.attr, .slice vb.qi vb.ni vb.ci, .slice vb.qw vb.nw vb.cw, .int .i64 vb.lo, .int .i64 vb.hi, .int .i64 vb.op, .slice vb.qk vb.nk vb.ck], s126, s127, .agg #[.int .i64 va.kind, .string va.attr, .slice va.qi va.ni va.ci, .slice va.qw va.nw va.cw, .int .i64 va.lo, .int .i64 va.hi, .int .i64 va.op, .slice va.qk va.nk va.ck], .agg #[.int .i64 vc.kind, .string vc.attr, .slice vc.qi vc.ni vc.ci, .slice vc.qw vc.nw vc.cw, .int .i64 vc.lo, .int .i64 vc.hi, .int .i64 vc.op, .slice vc.qk vc.nk vc.ck], s130, s131, s132, s133, .slice qe ev.length ce, s135, s136, s137, s138, s139, s140, s141, s142, s143, s144, s145, s146, s147, s148, s149, s150, s151, s152, s153, s154, s155] d) W) := hide (by
    intro W M3 R H3
    refine Eq.mpr (hF _ _ _ _) ?_
    have hHeld := KS W (unhide R)
    refine wpAnyH_ready (rs := [4, 11, 15]) (by kernel_rfl) (by simp) ?_
    refine AllReadyH.cons (o := { dst := some 119, op := Op.call { callee := Callee.value (Operand.func 20), args := #[Operand.tmp 118], argTypes := #[22] }, type := 31, pos := "law.go:63", after := #[{ on := 3, ground := Ground.data }], guard := none }) rfl (fun K hK => ?_) ?_
    · go_simp
      refine (cOr b c vb vc M3 _ (unhide H3) ((unhide Nb).keep (unhide R)) ((unhide Nc).keep (unhide R)) (by have := unhide HW; omega)).mono ?_
      rintro e W1 ⟨⟨v4, rfl, bn⟩, bb⟩
      simp only [Nv.val]
      refine hK.out _ _ (KS _ (below_sub (unhide R) bb)) (fun hHeld => ?_)
      clear hK K
      refine Eq.mp (hF _ _ _ _) ?_
      exact dp_to (unhide st21 W1 M3 v4 (hide (below_sub (unhide R) bb)) (hide (((bb).block _ (heap_lt (unhide H3))).trans (unhide H3))) (hide bn.toIn)) (by kernel_rfl) rfl
    refine AllReadyH.cons (o := { dst := some 126, op := Op.buildSlice 22 2 #[(0, Operand.tmp 124), (1, Operand.tmp 125)], type := 22, pos := "law.go:63", after := #[{ on := 9, ground := Ground.data }, { on := 10, ground := Ground.data }], guard := none }) rfl (fun K hK => ?_) ?_
    · go_simp
      refine hK.out _ _ (KS _ ((unhide R).alloc (unhide R).size _)) (fun hHeld => ?_)
      clear hK K
      refine Eq.mp (hF _ _ _ _) ?_
      exact dp_to (unhide st23 (World.alloc W (.cells #[.int .i64 va.kind, .string va.attr, .slice va.qi va.ni va.ci, .slice va.qw va.nw va.cw, .int .i64 va.lo, .int .i64 va.hi, .int .i64 va.op, .slice va.qk va.nk va.ck, .int .i64 vb.kind, .string vb.attr, .slice vb.qi vb.ni vb.ci, .slice vb.qw vb.nw vb.cw, .int .i64 vb.lo, .int .i64 vb.hi, .int .i64 vb.op, .slice vb.qk vb.nk vb.ck] 31)) M3 W.heap.size (hide ((unhide R).alloc (unhide R).size _)) (hide (((((Below.refl W.heap.size W).alloc (Nat.le_refl _) (.cells #[.int .i64 va.kind, .string va.attr, .slice va.qi va.ni va.ci, .slice va.qw va.nw va.cw, .int .i64 va.lo, .int .i64 va.hi, .int .i64 va.op, .slice va.qk va.nk va.ck, .int .i64 vb.kind, .string vb.attr, .slice vb.qi vb.ni vb.ci, .slice vb.qw vb.nw vb.cw, .int .i64 vb.lo, .int .i64 vb.hi, .int .i64 vb.op, .slice vb.qk vb.nk vb.ck] 31))).block _ (heap_lt (unhide H3))).trans (unhide H3))) (hide (box_nw _ _))) (by kernel_rfl) rfl
    refine AllReadyH.cons (o := { dst := some 130, op := Op.buildSlice 22 2 #[(0, Operand.tmp 128), (1, Operand.tmp 129)], type := 22, pos := "law.go:63", after := #[{ on := 13, ground := Ground.data }, { on := 14, ground := Ground.data }], guard := none }) rfl (fun K hK => ?_) ?_
    · go_simp
      refine hK.out _ _ (KS _ ((unhide R).alloc (unhide R).size _)) (fun hHeld => ?_)
      clear hK K
      refine Eq.mp (hF _ _ _ _) ?_
      exact dp_to (unhide st24 (World.alloc W (.cells #[.int .i64 va.kind, .string va.attr, .slice va.qi va.ni va.ci, .slice va.qw va.nw va.cw, .int .i64 va.lo, .int .i64 va.hi, .int .i64 va.op, .slice va.qk va.nk va.ck, .int .i64 vc.kind, .string vc.attr, .slice vc.qi vc.ni vc.ci, .slice vc.qw vc.nw vc.cw, .int .i64 vc.lo, .int .i64 vc.hi, .int .i64 vc.op, .slice vc.qk vc.nk vc.ck] 31)) M3 W.heap.size (hide ((unhide R).alloc (unhide R).size _)) (hide (((((Below.refl W.heap.size W).alloc (Nat.le_refl _) (.cells #[.int .i64 va.kind, .string va.attr, .slice va.qi va.ni va.ci, .slice va.qw va.nw va.cw, .int .i64 va.lo, .int .i64 va.hi, .int .i64 va.op, .slice va.qk va.nk va.ck, .int .i64 vc.kind, .string vc.attr, .slice vc.qi vc.ni vc.ci, .slice vc.qw vc.nw vc.cw, .int .i64 vc.lo, .int .i64 vc.hi, .int .i64 vc.op, .slice vc.qk vc.nk vc.ck] 31))).block _ (heap_lt (unhide H3))).trans (unhide H3))) (hide (box_nw _ _))) (by kernel_rfl) rfl
    exact AllReadyH.nil
    )
  have st26 : Hid (∀ (W : World) (M11 : Nat) (M15 : Nat), Hid (Below U.heap.size U W) → Hid (W.heap[M11]? = some (.cells #[.int .i64 va.kind, .string va.attr, .slice va.qi va.ni va.ci, .slice va.qw va.nw va.cw, .int .i64 va.lo, .int .i64 va.hi, .int .i64 va.op, .slice va.qk va.nk va.ck, .int .i64 vb.kind, .string vb.attr, .slice vb.qi vb.ni vb.ci, .slice vb.qw vb.nw vb.cw, .int .i64 vb.lo, .int .i64 vb.hi, .int .i64 vb.op, .slice vb.qk vb.nk vb.ck] 31 (0, 0))) → Hid (W.heap[M15]? = some (.cells #[.int .i64 va.kind, .string va.attr, .slice va.qi va.ni va.ci, .slice va.qw va.nw va.cw, .int .i64 va.lo, .int .i64 va.hi, .int .i64 va.op, .slice va.qk va.nk va.ck, .int .i64 vc.kind, .string vc.attr, .slice vc.qi vc.ni vc.ci, .slice vc.qw vc.nw vc.cw, .int .i64 vc.lo, .int .i64 vc.hi, .int .i64 vc.op, .slice vc.qk vc.nk vc.ck] 31 (0, 0))) → F 31 #[true, true, true, false, false, false, false, true, false, true, true, true, false, true, true, true, false, false, false, true, false, false, false, false, false, false, false, false, false, false, false, false, false, false, false, false, false, false, false, false, false, false] (Act.mk #[s0, s1, s2, .slice qe ev.length ce, .pointer (some ⟨A, 0, none⟩), .pointer (some ⟨B, 0, none⟩), .pointer (some ⟨C, 0, none⟩), s7, s8, .bool x, .bool y, .bool z, .bool (x && y), .bool (x || y), s14, s15, s16, s17, s18, s19, s20, s21, s22, s23, s24, s25, s26, s27, s28, s29, s30, s31, s32, s33, s34, s35, s36, s37, s38, s39, s40, s41, s42, s43, s44, s45, s46, s47, s48, s49, s50, s51, s52, s53, s54, s55, s56, s57, s58, s59, s60, s61, s62, s63, s64, s65, s66, s67, s68, s69, s70, s71, s72, s73, s74, s75, s76, s77, s78, s79, s80, s81, s82, s83, s84, s85, s86, s87, s88, s89, s90, s91, s92, s93, s94, s95, s96, s97, s98, s99, s100, s101, s102, s103, s104, s105, s106, s107, s108, s109, s110, s111, s112, s113, s114, .agg #[.int .i64 va.kind, .string va.attr, .slice va.qi va.ni va.ci, .slice va.qw va.nw va.cw, .int .i64 va.lo, .int .i64 va.hi, .int .i64 va.op, .slice va.qk va.nk va.ck], .agg #[.int .i64 vb.kind, .string vb.attr, .slice vb.qi vb.ni vb.ci, .slice vb.qw vb.nw vb.cw, .int .i64 vb.lo, .int .i64 vb.hi, .int .i64 vb.op, .slice vb.qk vb.nk vb.ck], .agg #[.int .i64 vc.kind, .string vc.attr, .slice vc.qi vc.ni vc.ci, .slice vc.qw vc.nw vc.cw, .int .i64 vc.lo, .int .i64 vc.hi, .int .i64 vc.op, .slice vc.qk vc.nk vc.ck], s118, s119, s120, s121, .slice qe ev.length ce, s123, .agg #[.int .i64 va.kind, .string va.attr, .slice va.qi va.ni va.ci, .slice va.qw va.nw va.cw, .int .i64 va.lo, .int .i64 va.hi, .int .i64 va.op, .slice va.qk va.nk va.ck], .agg #[.int .i64 vb.kind, .string vb.attr, .slice vb.qi vb.ni vb.ci, .slice vb.qw vb.nw vb.cw, .int .i64 vb.lo, .int .i64 vb.hi, .int .i64 vb.op, .slice vb.qk vb.nk vb.ck], .slice (some ⟨M11, 0, none⟩) 2 2, s127, .agg #[.int .i64 va.kind, .string va.attr, .slice va.qi va.ni va.ci, .slice va.qw va.nw va.cw, .int .i64 va.lo, .int .i64 va.hi, .int .i64 va.op, .slice va.qk va.nk va.ck], .agg #[.int .i64 vc.kind, .string vc.attr, .slice vc.qi vc.ni vc.ci, .slice vc.qw vc.nw vc.cw, .int .i64 vc.lo, .int .i64 vc.hi, .int .i64 vc.op, .slice vc.qk vc.nk vc.ck], .slice (some ⟨M15, 0, none⟩) 2 2, s131, s132, s133, .slice qe ev.length ce, s135, s136, s137, s138, s139, s140, s141, s142, s143, s144, s145, s146, s147, s148, s149, s150, s151, s152, s153, s154, s155] d) W) := hide (by
    intro W M11 M15 R H11 H15
    refine Eq.mpr (hF _ _ _ _) ?_
    have hHeld := KS W (unhide R)
    refine wpAnyH_ready (rs := [3]) (by kernel_rfl) (by simp) ?_
    refine AllReadyH.cons (o := { dst := some 118, op := Op.buildSlice 22 2 #[(0, Operand.tmp 116), (1, Operand.tmp 117)], type := 22, pos := "law.go:63", after := #[{ on := 1, ground := Ground.data }, { on := 2, ground := Ground.data }], guard := none }) rfl (fun K hK => ?_) ?_
    · go_simp
      refine hK.out _ _ (KS _ ((unhide R).alloc (unhide R).size _)) (fun hHeld => ?_)
      clear hK K
      refine Eq.mp (hF _ _ _ _) ?_
      exact dp_to (unhide st22 (World.alloc W (.cells #[.int .i64 vb.kind, .string vb.attr, .slice vb.qi vb.ni vb.ci, .slice vb.qw vb.nw vb.cw, .int .i64 vb.lo, .int .i64 vb.hi, .int .i64 vb.op, .slice vb.qk vb.nk vb.ck, .int .i64 vc.kind, .string vc.attr, .slice vc.qi vc.ni vc.ci, .slice vc.qw vc.nw vc.cw, .int .i64 vc.lo, .int .i64 vc.hi, .int .i64 vc.op, .slice vc.qk vc.nk vc.ck] 31)) W.heap.size M11 M15 (hide ((unhide R).alloc (unhide R).size _)) (hide (box_nw _ _)) (hide (((((Below.refl W.heap.size W).alloc (Nat.le_refl _) (.cells #[.int .i64 vb.kind, .string vb.attr, .slice vb.qi vb.ni vb.ci, .slice vb.qw vb.nw vb.cw, .int .i64 vb.lo, .int .i64 vb.hi, .int .i64 vb.op, .slice vb.qk vb.nk vb.ck, .int .i64 vc.kind, .string vc.attr, .slice vc.qi vc.ni vc.ci, .slice vc.qw vc.nw vc.cw, .int .i64 vc.lo, .int .i64 vc.hi, .int .i64 vc.op, .slice vc.qk vc.nk vc.ck] 31))).block _ (heap_lt (unhide H11))).trans (unhide H11))) (hide (((((Below.refl W.heap.size W).alloc (Nat.le_refl _) (.cells #[.int .i64 vb.kind, .string vb.attr, .slice vb.qi vb.ni vb.ci, .slice vb.qw vb.nw vb.cw, .int .i64 vb.lo, .int .i64 vb.hi, .int .i64 vb.op, .slice vb.qk vb.nk vb.ck, .int .i64 vc.kind, .string vc.attr, .slice vc.qi vc.ni vc.ci, .slice vc.qw vc.nw vc.cw, .int .i64 vc.lo, .int .i64 vc.hi, .int .i64 vc.op, .slice vc.qk vc.nk vc.ck] 31))).block _ (heap_lt (unhide H15))).trans (unhide H15)))) (by kernel_rfl) rfl
    exact AllReadyH.nil
    )
  have st27 : Hid (∀ (W : World) (M11 : Nat), Hid (Below U.heap.size U W) → Hid (W.heap[M11]? = some (.cells #[.int .i64 va.kind, .string va.attr, .slice va.qi va.ni va.ci, .slice va.qw va.nw va.cw, .int .i64 va.lo, .int .i64 va.hi, .int .i64 va.op, .slice va.qk va.nk va.ck, .int .i64 vb.kind, .string vb.attr, .slice vb.qi vb.ni vb.ci, .slice vb.qw vb.nw vb.cw, .int .i64 vb.lo, .int .i64 vb.hi, .int .i64 vb.op, .slice vb.qk vb.nk vb.ck] 31 (0, 0))) → F 32 #[true, true, true, false, false, false, false, true, false, true, true, true, false, true, true, false, false, false, false, true, false, false, false, false, false, false, false, false, false, false, false, false, false, false, false, false, false, false, false, false, false, false] (Act.mk #[s0, s1, s2, .slice qe ev.length ce, .pointer (some ⟨A, 0, none⟩), .pointer (some ⟨B, 0, none⟩), .pointer (some ⟨C, 0, none⟩), s7, s8, .bool x, .bool y, .bool z, .bool (x && y), .bool (x || y), s14, s15, s16, s17, s18, s19, s20, s21, s22, s23, s24, s25, s26, s27, s28, s29, s30, s31, s32, s33, s34, s35, s36, s37, s38, s39, s40, s41, s42, s43, s44, s45, s46, s47, s48, s49, s50, s51, s52, s53, s54, s55, s56, s57, s58, s59, s60, s61, s62, s63, s64, s65, s66, s67, s68, s69, s70, s71, s72, s73, s74, s75, s76, s77, s78, s79, s80, s81, s82, s83, s84, s85, s86, s87, s88, s89, s90, s91, s92, s93, s94, s95, s96, s97, s98, s99, s100, s101, s102, s103, s104, s105, s106, s107, s108, s109, s110, s111, s112, s113, s114, .agg #[.int .i64 va.kind, .string va.attr, .slice va.qi va.ni va.ci, .slice va.qw va.nw va.cw, .int .i64 va.lo, .int .i64 va.hi, .int .i64 va.op, .slice va.qk va.nk va.ck], .agg #[.int .i64 vb.kind, .string vb.attr, .slice vb.qi vb.ni vb.ci, .slice vb.qw vb.nw vb.cw, .int .i64 vb.lo, .int .i64 vb.hi, .int .i64 vb.op, .slice vb.qk vb.nk vb.ck], .agg #[.int .i64 vc.kind, .string vc.attr, .slice vc.qi vc.ni vc.ci, .slice vc.qw vc.nw vc.cw, .int .i64 vc.lo, .int .i64 vc.hi, .int .i64 vc.op, .slice vc.qk vc.nk vc.ck], s118, s119, s120, s121, .slice qe ev.length ce, s123, .agg #[.int .i64 va.kind, .string va.attr, .slice va.qi va.ni va.ci, .slice va.qw va.nw va.cw, .int .i64 va.lo, .int .i64 va.hi, .int .i64 va.op, .slice va.qk va.nk va.ck], .agg #[.int .i64 vb.kind, .string vb.attr, .slice vb.qi vb.ni vb.ci, .slice vb.qw vb.nw vb.cw, .int .i64 vb.lo, .int .i64 vb.hi, .int .i64 vb.op, .slice vb.qk vb.nk vb.ck], .slice (some ⟨M11, 0, none⟩) 2 2, s127, .agg #[.int .i64 va.kind, .string va.attr, .slice va.qi va.ni va.ci, .slice va.qw va.nw va.cw, .int .i64 va.lo, .int .i64 va.hi, .int .i64 va.op, .slice va.qk va.nk va.ck], .agg #[.int .i64 vc.kind, .string vc.attr, .slice vc.qi vc.ni vc.ci, .slice vc.qw vc.nw vc.cw, .int .i64 vc.lo, .int .i64 vc.hi, .int .i64 vc.op, .slice vc.qk vc.nk vc.ck], s130, s131, s132, s133, .slice qe ev.length ce, s135, s136, s137, s138, s139, s140, s141, s142, s143, s144, s145, s146, s147, s148, s149, s150, s151, s152, s153, s154, s155] d) W) := hide (by
    intro W M11 R H11
    refine Eq.mpr (hF _ _ _ _) ?_
    have hHeld := KS W (unhide R)
    refine wpAnyH_ready (rs := [3, 15]) (by kernel_rfl) (by simp) ?_
    refine AllReadyH.cons (o := { dst := some 118, op := Op.buildSlice 22 2 #[(0, Operand.tmp 116), (1, Operand.tmp 117)], type := 22, pos := "law.go:63", after := #[{ on := 1, ground := Ground.data }, { on := 2, ground := Ground.data }], guard := none }) rfl (fun K hK => ?_) ?_
    · go_simp
      refine hK.out _ _ (KS _ ((unhide R).alloc (unhide R).size _)) (fun hHeld => ?_)
      clear hK K
      refine Eq.mp (hF _ _ _ _) ?_
      exact dp_to (unhide st23 (World.alloc W (.cells #[.int .i64 vb.kind, .string vb.attr, .slice vb.qi vb.ni vb.ci, .slice vb.qw vb.nw vb.cw, .int .i64 vb.lo, .int .i64 vb.hi, .int .i64 vb.op, .slice vb.qk vb.nk vb.ck, .int .i64 vc.kind, .string vc.attr, .slice vc.qi vc.ni vc.ci, .slice vc.qw vc.nw vc.cw, .int .i64 vc.lo, .int .i64 vc.hi, .int .i64 vc.op, .slice vc.qk vc.nk vc.ck] 31)) W.heap.size M11 (hide ((unhide R).alloc (unhide R).size _)) (hide (box_nw _ _)) (hide (((((Below.refl W.heap.size W).alloc (Nat.le_refl _) (.cells #[.int .i64 vb.kind, .string vb.attr, .slice vb.qi vb.ni vb.ci, .slice vb.qw vb.nw vb.cw, .int .i64 vb.lo, .int .i64 vb.hi, .int .i64 vb.op, .slice vb.qk vb.nk vb.ck, .int .i64 vc.kind, .string vc.attr, .slice vc.qi vc.ni vc.ci, .slice vc.qw vc.nw vc.cw, .int .i64 vc.lo, .int .i64 vc.hi, .int .i64 vc.op, .slice vc.qk vc.nk vc.ck] 31))).block _ (heap_lt (unhide H11))).trans (unhide H11)))) (by kernel_rfl) rfl
    refine AllReadyH.cons (o := { dst := some 130, op := Op.buildSlice 22 2 #[(0, Operand.tmp 128), (1, Operand.tmp 129)], type := 22, pos := "law.go:63", after := #[{ on := 13, ground := Ground.data }, { on := 14, ground := Ground.data }], guard := none }) rfl (fun K hK => ?_) ?_
    · go_simp
      refine hK.out _ _ (KS _ ((unhide R).alloc (unhide R).size _)) (fun hHeld => ?_)
      clear hK K
      refine Eq.mp (hF _ _ _ _) ?_
      exact dp_to (unhide st26 (World.alloc W (.cells #[.int .i64 va.kind, .string va.attr, .slice va.qi va.ni va.ci, .slice va.qw va.nw va.cw, .int .i64 va.lo, .int .i64 va.hi, .int .i64 va.op, .slice va.qk va.nk va.ck, .int .i64 vc.kind, .string vc.attr, .slice vc.qi vc.ni vc.ci, .slice vc.qw vc.nw vc.cw, .int .i64 vc.lo, .int .i64 vc.hi, .int .i64 vc.op, .slice vc.qk vc.nk vc.ck] 31)) M11 W.heap.size (hide ((unhide R).alloc (unhide R).size _)) (hide (((((Below.refl W.heap.size W).alloc (Nat.le_refl _) (.cells #[.int .i64 va.kind, .string va.attr, .slice va.qi va.ni va.ci, .slice va.qw va.nw va.cw, .int .i64 va.lo, .int .i64 va.hi, .int .i64 va.op, .slice va.qk va.nk va.ck, .int .i64 vc.kind, .string vc.attr, .slice vc.qi vc.ni vc.ci, .slice vc.qw vc.nw vc.cw, .int .i64 vc.lo, .int .i64 vc.hi, .int .i64 vc.op, .slice vc.qk vc.nk vc.ck] 31))).block _ (heap_lt (unhide H11))).trans (unhide H11))) (hide (box_nw _ _))) (by kernel_rfl) rfl
    exact AllReadyH.nil
    )
  have st28 : Hid (∀ (W : World) (M15 : Nat), Hid (Below U.heap.size U W) → Hid (W.heap[M15]? = some (.cells #[.int .i64 va.kind, .string va.attr, .slice va.qi va.ni va.ci, .slice va.qw va.nw va.cw, .int .i64 va.lo, .int .i64 va.hi, .int .i64 va.op, .slice va.qk va.nk va.ck, .int .i64 vc.kind, .string vc.attr, .slice vc.qi vc.ni vc.ci, .slice vc.qw vc.nw vc.cw, .int .i64 vc.lo, .int .i64 vc.hi, .int .i64 vc.op, .slice vc.qk vc.nk vc.ck] 31 (0, 0))) → F 32 #[true, true, true, false, false, false, false, true, false, true, true, false, false, true, true, true, false, false, false, true, false, false, false, false, false, false, false, false, false, false, false, false, false, false, false, false, false, false, false, false, false, false] (Act.mk #[s0, s1, s2, .slice qe ev.length ce, .pointer (some ⟨A, 0, none⟩), .pointer (some ⟨B, 0, none⟩), .pointer (some ⟨C, 0, none⟩), s7, s8, .bool x, .bool y, .bool z, .bool (x && y), .bool (x || y), s14, s15, s16, s17, s18, s19, s20, s21, s22, s23, s24, s25, s26, s27, s28, s29, s30, s31, s32, s33, s34, s35, s36, s37, s38, s39, s40, s41, s42, s43, s44, s45, s46, s47, s48, s49, s50, s51, s52, s53, s54, s55, s56, s57, s58, s59, s60, s61, s62, s63, s64, s65, s66, s67, s68, s69, s70, s71, s72, s73, s74, s75, s76, s77, s78, s79, s80, s81, s82, s83, s84, s85, s86, s87, s88, s89, s90, s91, s92, s93, s94, s95, s96, s97, s98, s99, s100, s101, s102, s103, s104, s105, s106, s107, s108, s109, s110, s111, s112, s113, s114, .agg #[.int .i64 va.kind, .string va.attr, .slice va.qi va.ni va.ci, .slice va.qw va.nw va.cw, .int .i64 va.lo, .int .i64 va.hi, .int .i64 va.op, .slice va.qk va.nk va.ck], .agg #[.int .i64 vb.kind, .string vb.attr, .slice vb.qi vb.ni vb.ci, .slice vb.qw vb.nw vb.cw, .int .i64 vb.lo, .int .i64 vb.hi, .int .i64 vb.op, .slice vb.qk vb.nk vb.ck], .agg #[.int .i64 vc.kind, .string vc.attr, .slice vc.qi vc.ni vc.ci, .slice vc.qw vc.nw vc.cw, .int .i64 vc.lo, .int .i64 vc.hi, .int .i64 vc.op, .slice vc.qk vc.nk vc.ck], s118, s119, s120, s121, .slice qe ev.length ce, s123, .agg #[.int .i64 va.kind, .string va.attr, .slice va.qi va.ni va.ci, .slice va.qw va.nw va.cw, .int .i64 va.lo, .int .i64 va.hi, .int .i64 va.op, .slice va.qk va.nk va.ck], .agg #[.int .i64 vb.kind, .string vb.attr, .slice vb.qi vb.ni vb.ci, .slice vb.qw vb.nw vb.cw, .int .i64 vb.lo, .int .i64 vb.hi, .int .i64 vb.op, .slice vb.qk vb.nk vb.ck], s126, s127, .agg #[.int .i64 va.kind, .string va.attr, .slice va.qi va.ni va.ci, .slice va.qw va.nw va.cw, .int .i64 va.lo, .int .i64 va.hi, .int .i64 va.op, .slice va.qk va.nk va.ck], .agg #[.int .i64 vc.kind, .string vc.attr, .slice vc.qi vc.ni vc.ci, .slice vc.qw vc.nw vc.cw, .int .i64 vc.lo, .int .i64 vc.hi, .int .i64 vc.op, .slice vc.qk vc.nk vc.ck], .slice (some ⟨M15, 0, none⟩) 2 2, s131, s132, s133, .slice qe ev.length ce, s135, s136, s137, s138, s139, s140, s141, s142, s143, s144, s145, s146, s147, s148, s149, s150, s151, s152, s153, s154, s155] d) W) := hide (by
    intro W M15 R H15
    refine Eq.mpr (hF _ _ _ _) ?_
    have hHeld := KS W (unhide R)
    refine wpAnyH_ready (rs := [3, 11]) (by kernel_rfl) (by simp) ?_
    refine AllReadyH.cons (o := { dst := some 118, op := Op.buildSlice 22 2 #[(0, Operand.tmp 116), (1, Operand.tmp 117)], type := 22, pos := "law.go:63", after := #[{ on := 1, ground := Ground.data }, { on := 2, ground := Ground.data }], guard := none }) rfl (fun K hK => ?_) ?_
    · go_simp
      refine hK.out _ _ (KS _ ((unhide R).alloc (unhide R).size _)) (fun hHeld => ?_)
      clear hK K
      refine Eq.mp (hF _ _ _ _) ?_
      exact dp_to (unhide st24 (World.alloc W (.cells #[.int .i64 vb.kind, .string vb.attr, .slice vb.qi vb.ni vb.ci, .slice vb.qw vb.nw vb.cw, .int .i64 vb.lo, .int .i64 vb.hi, .int .i64 vb.op, .slice vb.qk vb.nk vb.ck, .int .i64 vc.kind, .string vc.attr, .slice vc.qi vc.ni vc.ci, .slice vc.qw vc.nw vc.cw, .int .i64 vc.lo, .int .i64 vc.hi, .int .i64 vc.op, .slice vc.qk vc.nk vc.ck] 31)) W.heap.size M15 (hide ((unhide R).alloc (unhide R).size _)) (hide (box_nw _ _)) (hide (((((Below.refl W.heap.size W).alloc (Nat.le_refl _) (.cells #[.int .i64 vb.kind, .string vb.attr, .slice vb.qi vb.ni vb.ci, .slice vb.qw vb.nw vb.cw, .int .i64 vb.lo, .int .i64 vb.hi, .int .i64 vb.op, .slice vb.qk vb.nk vb.ck, .int .i64 vc.kind, .string vc.attr, .slice vc.qi vc.ni vc.ci, .slice vc.qw vc.nw vc.cw, .int .i64 vc.lo, .int .i64 vc.hi, .int .i64 vc.op, .slice vc.qk vc.nk vc.ck] 31))).block _ (heap_lt (unhide H15))).trans (unhide H15)))) (by kernel_rfl) rfl
    refine AllReadyH.cons (o := { dst := some 126, op := Op.buildSlice 22 2 #[(0, Operand.tmp 124), (1, Operand.tmp 125)], type := 22, pos := "law.go:63", after := #[{ on := 9, ground := Ground.data }, { on := 10, ground := Ground.data }], guard := none }) rfl (fun K hK => ?_) ?_
    · go_simp
      refine hK.out _ _ (KS _ ((unhide R).alloc (unhide R).size _)) (fun hHeld => ?_)
      clear hK K
      refine Eq.mp (hF _ _ _ _) ?_
      exact dp_to (unhide st26 (World.alloc W (.cells #[.int .i64 va.kind, .string va.attr, .slice va.qi va.ni va.ci, .slice va.qw va.nw va.cw, .int .i64 va.lo, .int .i64 va.hi, .int .i64 va.op, .slice va.qk va.nk va.ck, .int .i64 vb.kind, .string vb.attr, .slice vb.qi vb.ni vb.ci, .slice vb.qw vb.nw vb.cw, .int .i64 vb.lo, .int .i64 vb.hi, .int .i64 vb.op, .slice vb.qk vb.nk vb.ck] 31)) W.heap.size M15 (hide ((unhide R).alloc (unhide R).size _)) (hide (box_nw _ _)) (hide (((((Below.refl W.heap.size W).alloc (Nat.le_refl _) (.cells #[.int .i64 va.kind, .string va.attr, .slice va.qi va.ni va.ci, .slice va.qw va.nw va.cw, .int .i64 va.lo, .int .i64 va.hi, .int .i64 va.op, .slice va.qk va.nk va.ck, .int .i64 vb.kind, .string vb.attr, .slice vb.qi vb.ni vb.ci, .slice vb.qw vb.nw vb.cw, .int .i64 vb.lo, .int .i64 vb.hi, .int .i64 vb.op, .slice vb.qk vb.nk vb.ck] 31))).block _ (heap_lt (unhide H15))).trans (unhide H15)))) (by kernel_rfl) rfl
    exact AllReadyH.nil
    )
  have st29 : Hid (∀ (W : World), Hid (Below U.heap.size U W) → F 42 #[false, false, false, false, false, false, false, false, false, false, false, false, false, false, false, false, false, false, false, false, false, false, false, false, false, false, false, false, false, false, false, false, false, false, false, false, false, false, false, false, false, false] (Act.mk #[s0, s1, s2, .slice qe ev.length ce, .pointer (some ⟨A, 0, none⟩), .pointer (some ⟨B, 0, none⟩), .pointer (some ⟨C, 0, none⟩), s7, s8, .bool x, .bool y, .bool z, .bool (x && y), .bool (x || y), s14, s15, s16, s17, s18, s19, s20, s21, s22, s23, s24, s25, s26, s27, s28, s29, s30, s31, s32, s33, s34, s35, s36, s37, s38, s39, s40, s41, s42, s43, s44, s45, s46, s47, s48, s49, s50, s51, s52, s53, s54, s55, s56, s57, s58, s59, s60, s61, s62, s63, s64, s65, s66, s67, s68, s69, s70, s71, s72, s73, s74, s75, s76, s77, s78, s79, s80, s81, s82, s83, s84, s85, s86, s87, s88, s89, s90, s91, s92, s93, s94, s95, s96, s97, s98, s99, s100, s101, s102, s103, s104, s105, s106, s107, s108, s109, s110, s111, s112, s113, s114, s115, s116, s117, s118, s119, s120, s121, s122, s123, s124, s125, s126, s127, s128, s129, s130, s131, s132, s133, s134, s135, s136, s137, s138, s139, s140, s141, s142, s143, s144, s145, s146, s147, s148, s149, s150, s151, s152, s153, s154, s155] d) W) := hide (by
    intro W R 
    refine Eq.mpr (hF _ _ _ _) ?_
    have hHeld := KS W (unhide R)
    refine wpAnyH_take (i := 0) (oi := { dst := some 115, op := Op.load 31 (Operand.tmp 4), type := 31, pos := "law.go:63", after := #[], guard := none }) (v := ?_) rfl (by kernel_rfl) (by kernel_rfl) (by kernel_rfl) (fun c a w => (unhide HP) c a _ _ w) (Or.inl ⟨by rfl, ?_⟩) (by assumption) ?_
    rotate_left
    · intro wq hSw
      go_simp
      with_reducible rfl
    simp only [Act.put, List.setIfInBounds_toArray, List.set_cons_zero, List.set_cons_succ]
    refine wpAnyH_take (i := 1) (oi := { dst := some 116, op := Op.load 31 (Operand.tmp 5), type := 31, pos := "law.go:63", after := #[], guard := none }) (v := ?_) rfl (by kernel_rfl) (by kernel_rfl) (by kernel_rfl) (fun c a w => (unhide HP) c a _ _ w) (Or.inl ⟨by rfl, ?_⟩) (by assumption) ?_
    rotate_left
    · intro wq hSw
      go_simp
      with_reducible rfl
    simp only [Act.put, List.setIfInBounds_toArray, List.set_cons_zero, List.set_cons_succ]
    refine wpAnyH_take (i := 2) (oi := { dst := some 117, op := Op.load 31 (Operand.tmp 6), type := 31, pos := "law.go:63", after := #[], guard := none }) (v := ?_) rfl (by kernel_rfl) (by kernel_rfl) (by kernel_rfl) (fun c a w => (unhide HP) c a _ _ w) (Or.inl ⟨by rfl, ?_⟩) (by assumption) ?_
    rotate_left
    · intro wq hSw
      go_simp
      with_reducible rfl
    simp only [Act.put, List.setIfInBounds_toArray, List.set_cons_zero, List.set_cons_succ]
    refine wpAnyH_take (i := 7) (oi := { dst := some 122, op := Op.move (Operand.tmp 3), type := 23, pos := "law.go:63", after := #[], guard := none }) (v := ?_) rfl (by kernel_rfl) (by kernel_rfl) (by kernel_rfl) (fun c a w => (unhide HP) c a _ _ w) (Or.inl ⟨by rfl, ?_⟩) (by assumption) ?_
    rotate_left
    · intro wq hSw
      go_simp
      with_reducible rfl
    simp only [Act.put, List.setIfInBounds_toArray, List.set_cons_zero, List.set_cons_succ]
    refine wpAnyH_take (i := 9) (oi := { dst := some 124, op := Op.load 31 (Operand.tmp 4), type := 31, pos := "law.go:63", after := #[], guard := none }) (v := ?_) rfl (by kernel_rfl) (by kernel_rfl) (by kernel_rfl) (fun c a w => (unhide HP) c a _ _ w) (Or.inl ⟨by rfl, ?_⟩) (by assumption) ?_
    rotate_left
    · intro wq hSw
      go_simp
      with_reducible rfl
    simp only [Act.put, List.setIfInBounds_toArray, List.set_cons_zero, List.set_cons_succ]
    refine wpAnyH_take (i := 10) (oi := { dst := some 125, op := Op.load 31 (Operand.tmp 5), type := 31, pos := "law.go:63", after := #[], guard := none }) (v := ?_) rfl (by kernel_rfl) (by kernel_rfl) (by kernel_rfl) (fun c a w => (unhide HP) c a _ _ w) (Or.inl ⟨by rfl, ?_⟩) (by assumption) ?_
    rotate_left
    · intro wq hSw
      go_simp
      with_reducible rfl
    simp only [Act.put, List.setIfInBounds_toArray, List.set_cons_zero, List.set_cons_succ]
    refine wpAnyH_take (i := 13) (oi := { dst := some 128, op := Op.load 31 (Operand.tmp 4), type := 31, pos := "law.go:63", after := #[], guard := none }) (v := ?_) rfl (by kernel_rfl) (by kernel_rfl) (by kernel_rfl) (fun c a w => (unhide HP) c a _ _ w) (Or.inl ⟨by rfl, ?_⟩) (by assumption) ?_
    rotate_left
    · intro wq hSw
      go_simp
      with_reducible rfl
    simp only [Act.put, List.setIfInBounds_toArray, List.set_cons_zero, List.set_cons_succ]
    refine wpAnyH_take (i := 14) (oi := { dst := some 129, op := Op.load 31 (Operand.tmp 6), type := 31, pos := "law.go:63", after := #[], guard := none }) (v := ?_) rfl (by kernel_rfl) (by kernel_rfl) (by kernel_rfl) (fun c a w => (unhide HP) c a _ _ w) (Or.inl ⟨by rfl, ?_⟩) (by assumption) ?_
    rotate_left
    · intro wq hSw
      go_simp
      with_reducible rfl
    simp only [Act.put, List.setIfInBounds_toArray, List.set_cons_zero, List.set_cons_succ]
    refine wpAnyH_take (i := 19) (oi := { dst := some 134, op := Op.move (Operand.tmp 3), type := 23, pos := "law.go:63", after := #[], guard := none }) (v := ?_) rfl (by kernel_rfl) (by kernel_rfl) (by kernel_rfl) (fun c a w => (unhide HP) c a _ _ w) (Or.inl ⟨by rfl, ?_⟩) (by assumption) ?_
    rotate_left
    · intro wq hSw
      go_simp
      with_reducible rfl
    simp only [Act.put, List.setIfInBounds_toArray, List.set_cons_zero, List.set_cons_succ]
    refine wpAnyH_ready (rs := [3, 11, 15]) (by kernel_rfl) (by simp) ?_
    refine AllReadyH.cons (o := { dst := some 118, op := Op.buildSlice 22 2 #[(0, Operand.tmp 116), (1, Operand.tmp 117)], type := 22, pos := "law.go:63", after := #[{ on := 1, ground := Ground.data }, { on := 2, ground := Ground.data }], guard := none }) rfl (fun K hK => ?_) ?_
    · go_simp
      refine hK.out _ _ (KS _ ((unhide R).alloc (unhide R).size _)) (fun hHeld => ?_)
      clear hK K
      refine Eq.mp (hF _ _ _ _) ?_
      exact dp_to (unhide st25 (World.alloc W (.cells #[.int .i64 vb.kind, .string vb.attr, .slice vb.qi vb.ni vb.ci, .slice vb.qw vb.nw vb.cw, .int .i64 vb.lo, .int .i64 vb.hi, .int .i64 vb.op, .slice vb.qk vb.nk vb.ck, .int .i64 vc.kind, .string vc.attr, .slice vc.qi vc.ni vc.ci, .slice vc.qw vc.nw vc.cw, .int .i64 vc.lo, .int .i64 vc.hi, .int .i64 vc.op, .slice vc.qk vc.nk vc.ck] 31)) W.heap.size (hide ((unhide R).alloc (unhide R).size _)) (hide (box_nw _ _))) (by kernel_rfl) rfl
    refine AllReadyH.cons (o := { dst := some 126, op := Op.buildSlice 22 2 #[(0, Operand.tmp 124), (1, Operand.tmp 125)], type := 22, pos := "law.go:63", after := #[{ on := 9, ground := Ground.data }, { on := 10, ground := Ground.data }], guard := none }) rfl (fun K hK => ?_) ?_
    · go_simp
      refine hK.out _ _ (KS _ ((unhide R).alloc (unhide R).size _)) (fun hHeld => ?_)
      clear hK K
      refine Eq.mp (hF _ _ _ _) ?_
      exact dp_to (unhide st27 (World.alloc W (.cells #[.int .i64 va.kind, .string va.attr, .slice va.qi va.ni va.ci, .slice va.qw va.nw va.cw, .int .i64 va.lo, .int .i64 va.hi, .int .i64 va.op, .slice va.qk va.nk va.ck, .int .i64 vb.kind, .string vb.attr, .slice vb.qi vb.ni vb.ci, .slice vb.qw vb.nw vb.cw, .int .i64 vb.lo, .int .i64 vb.hi, .int .i64 vb.op, .slice vb.qk vb.nk vb.ck] 31)) W.heap.size (hide ((unhide R).alloc (unhide R).size _)) (hide (box_nw _ _))) (by kernel_rfl) rfl
    refine AllReadyH.cons (o := { dst := some 130, op := Op.buildSlice 22 2 #[(0, Operand.tmp 128), (1, Operand.tmp 129)], type := 22, pos := "law.go:63", after := #[{ on := 13, ground := Ground.data }, { on := 14, ground := Ground.data }], guard := none }) rfl (fun K hK => ?_) ?_
    · go_simp
      refine hK.out _ _ (KS _ ((unhide R).alloc (unhide R).size _)) (fun hHeld => ?_)
      clear hK K
      refine Eq.mp (hF _ _ _ _) ?_
      exact dp_to (unhide st28 (World.alloc W (.cells #[.int .i64 va.kind, .string va.attr, .slice va.qi va.ni va.ci, .slice va.qw va.nw va.cw, .int .i64 va.lo, .int .i64 va.hi, .int .i64 va.op, .slice va.qk va.nk va.ck, .int .i64 vc.kind, .string vc.attr, .slice vc.qi vc.ni vc.ci, .slice vc.qw vc.nw vc.cw, .int .i64 vc.lo, .int .i64 vc.hi, .int .i64 vc.op, .slice vc.qk vc.nk vc.ck] 31)) W.heap.size (hide ((unhide R).alloc (unhide R).size _)) (hide (box_nw _ _))) (by kernel_rfl) rfl
    exact AllReadyH.nil
    )
  exact dp_to (unhide st29 _ (hide (Below.refl _ _).drew)) (by kernel_rfl) rfl
end Go.Proofs.Ytkpdhkdegoincaa

/- Region 5 of the law EvalRules: every order of its operations. -/
import Derived.Test.YtkpdhkdegoincaaRulesHelp
namespace Go.Proofs.Ytkpdhkdegoincaa
open Go.RowKit Go.Sort

set_option maxRecDepth 100000 in
set_option maxHeartbeats 40000000 in
theorem reg5 (a b c : Nd) (va vb vc : Nv) (A B C : Nat) (qe : Option Addr) (ce : Nat) (ev : List Pr) (x y z : Bool) (U : World)
    (hA : U.heap[A]? = some (.cells #[.int .i64 va.kind, .string va.attr, .slice va.qi va.ni va.ci, .slice va.qw va.nw va.cw, .int .i64 va.lo, .int .i64 va.hi, .int .i64 va.op, .slice va.qk va.nk va.ck] 31 (0, 0))) (hB : U.heap[B]? = some (.cells #[.int .i64 vb.kind, .string vb.attr, .slice vb.qi vb.ni vb.ci, .slice vb.qw vb.nw vb.cw, .int .i64 vb.lo, .int .i64 vb.hi, .int .i64 vb.op, .slice vb.qk vb.nk vb.ck] 31 (0, 0))) (hC : U.heap[C]? = some (.cells #[.int .i64 vc.kind, .string vc.attr, .slice vc.qi vc.ni vc.ci, .slice vc.qw vc.nw vc.cw, .int .i64 vc.lo, .int .i64 vc.hi, .int .i64 vc.op, .slice vc.qk vc.nk vc.ck] 31 (0, 0)))
    (na : NdIn U va a) (nb : NdIn U vb b) (nc : NdIn U vc c) (he : SlOf encP 4 U qe ce ev) (hca : chkN a = true) (hcb : chkN b = true) (hcc : chkN c = true)
    (hw : wtN a + wtN b + wtN c ≤ 30000000) (hl : ev.length ≤ 100000000000000) (hx : truN ev a = x) (hy : truN ev b = y) (hz : truN ev c = z)
    (s0 s1 s2 s7 s8 s9 s10 s11 s12 s13 s14 s15 s16 s17 s18 s19 s20 s21 s22 s23 s24 s25 s26 s27 s28 s29 s30 s31 s32 s33 s34 s35 s36 s37 s38 s39 s40 s41 s42 s43 s44 s45 s46 s47 s48 s49 s50 s51 s52 s53 s54 s55 s56 s57 s58 s59 s60 s61 s62 s63 s64 s65 s66 s67 s68 s69 s70 s71 s72 s73 s74 s75 s76 s77 s78 s79 s80 s81 s82 s83 s84 s85 s86 s87 s88 s89 s90 s91 s92 s93 s94 s95 s96 s97 s98 s99 s100 s101 s102 s103 s104 s105 s106 s107 s108 s109 s110 s111 s112 s113 s114 s115 s116 s117 s118 s119 s120 s121 s122 s123 s124 s125 s126 s127 s128 s129 s130 s131 s132 s133 s134 s135 s136 s137 s138 s139 s140 s141 s142 s143 s144 s145 s146 s147 s148 s149 s150 s151 s152 s153 s154 s155 : Value) (d : List Deferred) (Q : Exit → Act → World → Prop) (hP : ∀ c (a : Act) o v w, Q (.panic c) (a.put o v) w → Q (.panic c) a w)
    (hQ : ∀ (W : World) (t29 t30 t31 t32 t33 t34 t35 t36 t37 : Value), Below U.heap.size U W → Q .normal (Act.mk #[s0, s1, s2, .slice qe ev.length ce, .pointer (some ⟨A, 0, none⟩), .pointer (some ⟨B, 0, none⟩), .pointer (some ⟨C, 0, none⟩), s7, s8, .bool x, .bool y, .bool z, s12, s13, s14, s15, s16, s17, s18, s19, s20, s21, s22, s23, s24, s25, s26, s27, s28, t29, t30, t31, t32, t33, t34, t35, t36, t37, s38, s39, s40, s41, s42, s43, s44, s45, s46, s47, s48, s49, s50, s51, s52, s53, s54, s55, s56, s57, s58, s59, s60, s61, s62, s63, s64, s65, s66, s67, s68, s69, s70, s71, s72, s73, s74, s75, s76, s77, s78, s79, s80, s81, s82, s83, s84, s85, s86, s87, s88, s89, s90, s91, s92, s93, s94, s95, s96, s97, s98, s99, s100, s101, s102, s103, s104, s105, s106, s107, s108, s109, s110, s111, s112, s113, s114, s115, s116, s117, s118, s119, s120, s121, s122, s123, s124, s125, s126, s127, s128, s129, s130, s131, s132, s133, s134, s135, s136, s137, s138, s139, s140, s141, s142, s143, s144, s145, s146, s147, s148, s149, s150, s151, s152, s153, s154, s155] d) W) :
    (Code.region 5 #[{ dst := some 29, op := Op.load 31 (Operand.tmp 4), type := 31, pos := "law.go:55", after := #[], guard := none }, { dst := some 30, op := Op.move (Operand.tmp 3), type := 23, pos := "law.go:55", after := #[], guard := none }, { dst := some 31, op := Op.call { callee := Callee.value (Operand.func 8), args := #[Operand.tmp 29, Operand.tmp 30], argTypes := #[31, 23] }, type := 4, pos := "law.go:55", after := #[{ on := 0, ground := Ground.data }, { on := 1, ground := Ground.data }], guard := none }, { dst := some 32, op := Op.load 31 (Operand.tmp 5), type := 31, pos := "law.go:55", after := #[], guard := none }, { dst := some 33, op := Op.move (Operand.tmp 3), type := 23, pos := "law.go:55", after := #[], guard := none }, { dst := some 34, op := Op.call { callee := Callee.value (Operand.func 8), args := #[Operand.tmp 32, Operand.tmp 33], argTypes := #[31, 23] }, type := 4, pos := "law.go:55", after := #[{ on := 3, ground := Ground.data }, { on := 4, ground := Ground.data }, { on := 2, ground := Ground.chain }], guard := none }, { dst := some 35, op := Op.load 31 (Operand.tmp 6), type := 31, pos := "law.go:55", after := #[], guard := none }, { dst := some 36, op := Op.move (Operand.tmp 3), type := 23, pos := "law.go:55", after := #[], guard := none }, { dst := some 37, op := Op.call { callee := Callee.value (Operand.func 8), args := #[Operand.tmp 35, Operand.tmp 36], argTypes := #[31, 23] }, type := 4, pos := "law.go:55", after := #[{ on := 6, ground := Ground.data }, { on := 7, ground := Ground.data }, { on := 5, ground := Ground.chain }], guard := none }, { dst := some 9, op := Op.assign (Operand.tmp 31), type := 4, pos := "law.go:55", after := #[{ on := 2, ground := Ground.data }, { on := 8, ground := Ground.chain }, { on := 0, ground := Ground.phase }, { on := 1, ground := Ground.phase }, { on := 2, ground := Ground.phase }, { on := 3, ground := Ground.textOnly Departure.lateStores }, { on := 4, ground := Ground.textOnly Departure.lateStores }, { on := 5, ground := Ground.textOnly Departure.lateStoresUnsure }, { on := 6, ground := Ground.textOnly Departure.lateStores }, { on := 7, ground := Ground.textOnly Departure.lateStores }, { on := 8, ground := Ground.textOnly Departure.lateStoresUnsure }], guard := none }, { dst := some 10, op := Op.assign (Operand.tmp 34), type := 4, pos := "law.go:55", after := #[{ on := 5, ground := Ground.data }, { on := 9, ground := Ground.chain }, { on := 0, ground := Ground.phase }, { on := 1, ground := Ground.phase }, { on := 2, ground := Ground.phase }, { on := 3, ground := Ground.phase }, { on := 4, ground := Ground.phase }, { on := 5, ground := Ground.phase }, { on := 6, ground := Ground.textOnly Departure.lateStores }, { on := 7, ground := Ground.textOnly Departure.lateStores }, { on := 8, ground := Ground.textOnly Departure.lateStoresUnsure }, { on := 9, ground := Ground.phase }], guard := none }, { dst := some 11, op := Op.assign (Operand.tmp 37), type := 4, pos := "law.go:55", after := #[{ on := 8, ground := Ground.data }, { on := 10, ground := Ground.chain }, { on := 0, ground := Ground.phase }, { on := 1, ground := Ground.phase }, { on := 2, ground := Ground.phase }, { on := 3, ground := Ground.phase }, { on := 4, ground := Ground.phase }, { on := 5, ground := Ground.phase }, { on := 6, ground := Ground.phase }, { on := 7, ground := Ground.phase }, { on := 8, ground := Ground.phase }, { on := 9, ground := Ground.phase }, { on := 10, ground := Ground.phase }], guard := none }] true).wp Try.prog Q (Act.mk #[s0, s1, s2, .slice qe ev.length ce, .pointer (some ⟨A, 0, none⟩), .pointer (some ⟨B, 0, none⟩), .pointer (some ⟨C, 0, none⟩), s7, s8, s9, s10, s11, s12, s13, s14, s15, s16, s17, s18, s19, s20, s21, s22, s23, s24, s25, s26, s27, s28, s29, s30, s31, s32, s33, s34, s35, s36, s37, s38, s39, s40, s41, s42, s43, s44, s45, s46, s47, s48, s49, s50, s51, s52, s53, s54, s55, s56, s57, s58, s59, s60, s61, s62, s63, s64, s65, s66, s67, s68, s69, s70, s71, s72, s73, s74, s75, s76, s77, s78, s79, s80, s81, s82, s83, s84, s85, s86, s87, s88, s89, s90, s91, s92, s93, s94, s95, s96, s97, s98, s99, s100, s101, s102, s103, s104, s105, s106, s107, s108, s109, s110, s111, s112, s113, s114, s115, s116, s117, s118, s119, s120, s121, s122, s123, s124, s125, s126, s127, s128, s129, s130, s131, s132, s133, s134, s135, s136, s137, s138, s139, s140, s141, s142, s143, s144, s145, s146, s147, s148, s149, s150, s151, s152, s153, s154, s155] d) U := by
  have KS : ∀ W, Below U.heap.size U W → (fun w' => w'.cell? ⟨A, 0, none⟩ = some (.int .i64 va.kind) ∧ w'.cell? ⟨A, 1, none⟩ = some (.string va.attr) ∧ w'.cell? ⟨A, 2, none⟩ = some (.slice va.qi va.ni va.ci) ∧ w'.cell? ⟨A, 3, none⟩ = some (.slice va.qw va.nw va.cw) ∧ w'.cell? ⟨A, 4, none⟩ = some (.int .i64 va.lo) ∧ w'.cell? ⟨A, 5, none⟩ = some (.int .i64 va.hi) ∧ w'.cell? ⟨A, 6, none⟩ = some (.int .i64 va.op) ∧ w'.cell? ⟨A, 7, none⟩ = some (.slice va.qk va.nk va.ck) ∧ w'.cell? ⟨B, 0, none⟩ = some (.int .i64 vb.kind) ∧ w'.cell? ⟨B, 1, none⟩ = some (.string vb.attr) ∧ w'.cell? ⟨B, 2, none⟩ = some (.slice vb.qi vb.ni vb.ci) ∧ w'.cell? ⟨B, 3, none⟩ = some (.slice vb.qw vb.nw vb.cw) ∧ w'.cell? ⟨B, 4, none⟩ = some (.int .i64 vb.lo) ∧ w'.cell? ⟨B, 5, none⟩ = some (.int .i64 vb.hi) ∧ w'.cell? ⟨B, 6, none⟩ = some (.int .i64 vb.op) ∧ w'.cell? ⟨B, 7, none⟩ = some (.slice vb.qk vb.nk vb.ck) ∧ w'.cell? ⟨C, 0, none⟩ = some (.int .i64 vc.kind) ∧ w'.cell? ⟨C, 1, none⟩ = some (.string vc.attr) ∧ w'.cell? ⟨C, 2, none⟩ = some (.slice vc.qi vc.ni vc.ci) ∧ w'.cell? ⟨C, 3, none⟩ = some (.slice vc.qw vc.nw vc.cw) ∧ w'.cell? ⟨C, 4, none⟩ = some (.int .i64 vc.lo) ∧ w'.cell? ⟨C, 5, none⟩ = some (.int .i64 vc.hi) ∧ w'.cell? ⟨C, 6, none⟩ = some (.int .i64 vc.op) ∧ w'.cell? ⟨C, 7, none⟩ = some (.slice vc.qk vc.nk vc.ck)) W := fun W hb => by
    obtain ⟨a0, a1, a2, a3, a4, a5, a6, a7⟩ := of8' ((hb.block _ (heap_lt hA)).trans hA)
    obtain ⟨b0, b1, b2, b3, b4, b5, b6, b7⟩ := of8' ((hb.block _ (heap_lt hB)).trans hB)
    obtain ⟨c0, c1, c2, c3, c4, c5, c6, c7⟩ := of8' ((hb.block _ (heap_lt hC)).trans hC)
    exact ⟨a0, a1, a2, a3, a4, a5, a6, a7, b0, b1, b2, b3, b4, b5, b6, b7, c0, c1, c2, c3, c4, c5, c6, c7⟩
  have Na := hide na
  have Nb := hide nb
  have Nc := hide nc
  have HE := hide he
  have HCa := hide hca
  have HCb := hide hcb
  have HCc := hide hcc
  have HW := hide hw
  have HL := hide hl
  have HXa := hide hx
  have HXb := hide hy
  have HXc := hide hz
  have HQ := hide hQ
  have HP := hide hP
  clear hP
  have kf : ∀ W, Hid (Below U.heap.size U W) → W = W := fun _ _ => rfl
  clear hA hB hC na nb nc he hca hcb hcc hw hl hx hy hz hQ kf
  refine wp_region_held_drew (S := fun w' => w'.cell? ⟨A, 0, none⟩ = some (.int .i64 va.kind) ∧ w'.cell? ⟨A, 1, none⟩ = some (.string va.attr) ∧ w'.cell? ⟨A, 2, none⟩ = some (.slice va.qi va.ni va.ci) ∧ w'.cell? ⟨A, 3, none⟩ = some (.slice va.qw va.nw va.cw) ∧ w'.cell? ⟨A, 4, none⟩ = some (.int .i64 va.lo) ∧ w'.cell? ⟨A, 5, none⟩ = some (.int .i64 va.hi) ∧ w'.cell? ⟨A, 6, none⟩ = some (.int .i64 va.op) ∧ w'.cell? ⟨A, 7, none⟩ = some (.slice va.qk va.nk va.ck) ∧ w'.cell? ⟨B, 0, none⟩ = some (.int .i64 vb.kind) ∧ w'.cell? ⟨B, 1, none⟩ = some (.string vb.attr) ∧ w'.cell? ⟨B, 2, none⟩ = some (.slice vb.qi vb.ni vb.ci) ∧ w'.cell? ⟨B, 3, none⟩ = some (.slice vb.qw vb.nw vb.cw) ∧ w'.cell? ⟨B, 4, none⟩ = some (.int .i64 vb.lo) ∧ w'.cell? ⟨B, 5, none⟩ = some (.int .i64 vb.hi) ∧ w'.cell? ⟨B, 6, none⟩ = some (.int .i64 vb.op) ∧ w'.cell? ⟨B, 7, none⟩ = some (.slice vb.qk vb.nk vb.ck) ∧ w'.cell? ⟨C, 0, none⟩ = some (.int .i64 vc.kind) ∧ w'.cell? ⟨C, 1, none⟩ = some (.string vc.attr) ∧ w'.cell? ⟨C, 2, none⟩ = some (.slice vc.qi vc.ni vc.ci) ∧ w'.cell? ⟨C, 3, none⟩ = some (.slice vc.qw vc.nw vc.cw) ∧ w'.cell? ⟨C, 4, none⟩ = some (.int .i64 vc.lo) ∧ w'.cell? ⟨C, 5, none⟩ = some (.int .i64 vc.hi) ∧ w'.cell? ⟨C, 6, none⟩ = some (.int .i64 vc.op) ∧ w'.cell? ⟨C, 7, none⟩ = some (.slice vc.qk vc.nk vc.ck)) (by kernel_rfl) (KS _ (Below.refl _ _).drew) (fun hHeld => ?_)
  clear hHeld
  refine dp_start ?_
  intro F hF
  have st0 : Hid (∀ (W : World), Hid (Below U.heap.size U W) → F 3 #[true, true, true, true, true, true, true, true, true, false, false, false] (Act.mk #[s0, s1, s2, .slice qe ev.length ce, .pointer (some ⟨A, 0, none⟩), .pointer (some ⟨B, 0, none⟩), .pointer (some ⟨C, 0, none⟩), s7, s8, s9, s10, s11, s12, s13, s14, s15, s16, s17, s18, s19, s20, s21, s22, s23, s24, s25, s26, s27, s28, .agg #[.int .i64 va.kind, .string va.attr, .slice va.qi va.ni va.ci, .slice va.qw va.nw va.cw, .int .i64 va.lo, .int .i64 va.hi, .int .i64 va.op, .slice va.qk va.nk va.ck], .slice qe ev.length ce, .bool x, .agg #[.int .i64 vb.kind, .string vb.attr, .slice vb.qi vb.ni vb.ci, .slice vb.qw vb.nw vb.cw, .int .i64 vb.lo, .int .i64 vb.hi, .int .i64 vb.op, .slice vb.qk vb.nk vb.ck], .slice qe ev.length ce, .bool y, .agg #[.int .i64 vc.kind, .string vc.attr, .slice vc.qi vc.ni vc.ci, .slice vc.qw vc.nw vc.cw, .int .i64 vc.lo, .int .i64 vc.hi, .int .i64 vc.op, .slice vc.qk vc.nk vc.ck], .slice qe ev.length ce, .bool z, s38, s39, s40, s41, s42, s43, s44, s45, s46, s47, s48, s49, s50, s51, s52, s53, s54, s55, s56, s57, s58, s59, s60, s61, s62, s63, s64, s65, s66, s67, s68, s69, s70, s71, s72, s73, s74, s75, s76, s77, s78, s79, s80, s81, s82, s83, s84, s85, s86, s87, s88, s89, s90, s91, s92, s93, s94, s95, s96, s97, s98, s99, s100, s101, s102, s103, s104, s105, s106, s107, s108, s109, s110, s111, s112, s113, s114, s115, s116, s117, s118, s119, s120, s121, s122, s123, s124, s125, s126, s127, s128, s129, s130, s131, s132, s133, s134, s135, s136, s137, s138, s139, s140, s141, s142, s143, s144, s145, s146, s147, s148, s149, s150, s151, s152, s153, s154, s155] d) W) := hide (by
    intro W R 
    refine Eq.mpr (hF _ _ _ _) ?_
    have hHeld := KS W (unhide R)
    refine wpAnyH_take (i := 9) (oi := { dst := some 9, op := Op.assign (Operand.tmp 31), type := 4, pos := "law.go:55", after := #[{ on := 2, ground := Ground.data }, { on := 8, ground := Ground.chain }, { on := 0, ground := Ground.phase }, { on := 1, ground := Ground.phase }, { on := 2, ground := Ground.phase }, { on := 3, ground := Ground.textOnly Departure.lateStores }, { on := 4, ground := Ground.textOnly Departure.lateStores }, { on := 5, ground := Ground.textOnly Departure.lateStoresUnsure }, { on := 6, ground := Ground.textOnly Departure.lateStores }, { on := 7, ground := Ground.textOnly Departure.lateStores }, { on := 8, ground := Ground.textOnly Departure.lateStoresUnsure }], guard := none }) (v := ?_) rfl (by kernel_rfl) (by kernel_rfl) (by kernel_rfl) (fun c a w => (unhide HP) c a _ _ w) (Or.inl ⟨by rfl, ?_⟩) (by assumption) ?_
    rotate_left
    · intro wq hSw
      go_simp
      with_reducible rfl
    simp only [Act.put, List.setIfInBounds_toArray, List.set_cons_zero, List.set_cons_succ]
    refine wpAnyH_take (i := 10) (oi := { dst := some 10, op := Op.assign (Operand.tmp 34), type := 4, pos := "law.go:55", after := #[{ on := 5, ground := Ground.data }, { on := 9, ground := Ground.chain }, { on := 0, ground := Ground.phase }, { on := 1, ground := Ground.phase }, { on := 2, ground := Ground.phase }, { on := 3, ground := Ground.phase }, { on := 4, ground := Ground.phase }, { on := 5, ground := Ground.phase }, { on := 6, ground := Ground.textOnly Departure.lateStores }, { on := 7, ground := Ground.textOnly Departure.lateStores }, { on := 8, ground := Ground.textOnly Departure.lateStoresUnsure }, { on := 9, ground := Ground.phase }], guard := none }) (v := ?_) rfl (by kernel_rfl) (by kernel_rfl) (by kernel_rfl) (fun c a w => (unhide HP) c a _ _ w) (Or.inl ⟨by rfl, ?_⟩) (by assumption) ?_
    rotate_left
    · intro wq hSw
      go_simp
      with_reducible rfl
    simp only [Act.put, List.setIfInBounds_toArray, List.set_cons_zero, List.set_cons_succ]
    refine wpAnyH_take (i := 11) (oi := { dst := some 11, op := Op.assign (Operand.tmp 37), type := 4, pos := "law.go:55", after := #[{ on := 8, ground := Ground.data }, { on := 10, ground := Ground.chain }, { on := 0, ground := Ground.phase }, { on := 1, ground := Ground.phase }, { on := 2, ground := Ground.phase }, { on := 3, ground := Ground.phase }, { on := 4, ground := Ground.phase }, { on := 5, ground := Ground.phase }, { on := 6, ground := Ground.phase }, { on := 7, ground := Ground.phase }, { on := 8, ground := Ground.phase }, { on := 9, ground := Ground.phase }, { on := 10, ground := Ground.phase }], guard := none }) (v := ?_) rfl (by kernel_rfl) (by kernel_rfl) (by kernel_rfl) (fun c a w => (unhide HP) c a _ _ w) (Or.inl ⟨by rfl, ?_⟩) (by assumption) ?_
    rotate_left
    · intro wq hSw
      go_simp
      with_reducible rfl
    simp only [Act.put, List.setIfInBounds_toArray, List.set_cons_zero, List.set_cons_succ]
    refine wpAnyH_done (by kernel_rfl) ?_ _
    exact (unhide HQ) W _ _ _ _ _ _ _ _ _ (unhide R)
    )
  have st1 : Hid (∀ (W : World), Hid (Below U.heap.size U W) → F 4 #[true, true, true, true, true, true, true, true, false, false, false, false] (Act.mk #[s0, s1, s2, .slice qe ev.length ce, .pointer (some ⟨A, 0, none⟩), .pointer (some ⟨B, 0, none⟩), .pointer (some ⟨C, 0, none⟩), s7, s8, s9, s10, s11, s12, s13, s14, s15, s16, s17, s18, s19, s20, s21, s22, s23, s24, s25, s26, s27, s28, .agg #[.int .i64 va.kind, .string va.attr, .slice va.qi va.ni va.ci, .slice va.qw va.nw va.cw, .int .i64 va.lo, .int .i64 va.hi, .int .i64 va.op, .slice va.qk va.nk va.ck], .slice qe ev.length ce, .bool x, .agg #[.int .i64 vb.kind, .string vb.attr, .slice vb.qi vb.ni vb.ci, .slice vb.qw vb.nw vb.cw, .int .i64 vb.lo, .int .i64 vb.hi, .int .i64 vb.op, .slice vb.qk vb.nk vb.ck], .slice qe ev.length ce, .bool y, .agg #[.int .i64 vc.kind, .string vc.attr, .slice vc.qi vc.ni vc.ci, .slice vc.qw vc.nw vc.cw, .int .i64 vc.lo, .int .i64 vc.hi, .int .i64 vc.op, .slice vc.qk vc.nk vc.ck], .slice qe ev.length ce, s37, s38, s39, s40, s41, s42, s43, s44, s45, s46, s47, s48, s49, s50, s51, s52, s53, s54, s55, s56, s57, s58, s59, s60, s61, s62, s63, s64, s65, s66, s67, s68, s69, s70, s71, s72, s73, s74, s75, s76, s77, s78, s79, s80, s81, s82, s83, s84, s85, s86, s87, s88, s89, s90, s91, s92, s93, s94, s95, s96, s97, s98, s99, s100, s101, s102, s103, s104, s105, s106, s107, s108, s109, s110, s111, s112, s113, s114, s115, s116, s117, s118, s119, s120, s121, s122, s123, s124, s125, s126, s127, s128, s129, s130, s131, s132, s133, s134, s135, s136, s137, s138, s139, s140, s141, s142, s143, s144, s145, s146, s147, s148, s149, s150, s151, s152, s153, s154, s155] d) W) := hide (by
    intro W R 
    refine Eq.mpr (hF _ _ _ _) ?_
    have hHeld := KS W (unhide R)
    refine wpAnyH_ready (rs := [8]) (by kernel_rfl) (by simp) ?_
    refine AllReadyH.cons (o := { dst := some 37, op := Op.call { callee := Callee.value (Operand.func 8), args := #[Operand.tmp 35, Operand.tmp 36], argTypes := #[31, 23] }, type := 4, pos := "law.go:55", after := #[{ on := 6, ground := Ground.data }, { on := 7, ground := Ground.data }, { on := 5, ground := Ground.chain }], guard := none }) rfl (fun K hK => ?_) ?_
    · go_simp
      refine (cEv c vc qe ce ev _ z ((unhide Nc).keep (unhide R)) ((unhide HE).below (unhide R)) (unhide HCc) (unhide HXc) (by have := unhide HW; omega) (unhide HL)).mono ?_
      rintro e W1 ⟨rfl, bb⟩
      refine hK.out _ _ (KS _ (below_sub (unhide R) bb)) (fun hHeld => ?_)
      clear hK K
      refine Eq.mp (hF _ _ _ _) ?_
      exact dp_to (unhide st0 W1 (hide (below_sub (unhide R) bb))) (by kernel_rfl) rfl
    exact AllReadyH.nil
    )
  have st2 : Hid (∀ (W : World), Hid (Below U.heap.size U W) → F 5 #[true, true, true, true, true, false, true, true, false, false, false, false] (Act.mk #[s0, s1, s2, .slice qe ev.length ce, .pointer (some ⟨A, 0, none⟩), .pointer (some ⟨B, 0, none⟩), .pointer (some ⟨C, 0, none⟩), s7, s8, s9, s10, s11, s12, s13, s14, s15, s16, s17, s18, s19, s20, s21, s22, s23, s24, s25, s26, s27, s28, .agg #[.int .i64 va.kind, .string va.attr, .slice va.qi va.ni va.ci, .slice va.qw va.nw va.cw, .int .i64 va.lo, .int .i64 va.hi, .int .i64 va.op, .slice va.qk va.nk va.ck], .slice qe ev.length ce, .bool x, .agg #[.int .i64 vb.kind, .string vb.attr, .slice vb.qi vb.ni vb.ci, .slice vb.qw vb.nw vb.cw, .int .i64 vb.lo, .int .i64 vb.hi, .int .i64 vb.op, .slice vb.qk vb.nk vb.ck], .slice qe ev.length ce, s34, .agg #[.int .i64 vc.kind, .string vc.attr, .slice vc.qi vc.ni vc.ci, .slice vc.qw vc.nw vc.cw, .int .i64 vc.lo, .int .i64 vc.hi, .int .i64 vc.op, .slice vc.qk vc.nk vc.ck], .slice qe ev.length ce, s37, s38, s39, s40, s41, s42, s43, s44, s45, s46, s47, s48, s49, s50, s51, s52, s53, s54, s55, s56, s57, s58, s59, s60, s61, s62, s63, s64, s65, s66, s67, s68, s69, s70, s71, s72, s73, s74, s75, s76, s77, s78, s79, s80, s81, s82, s83, s84, s85, s86, s87, s88, s89, s90, s91, s92, s93, s94, s95, s96, s97, s98, s99, s100, s101, s102, s103, s104, s105, s106, s107, s108, s109, s110, s111, s112, s113, s114, s115, s116, s117, s118, s119, s120, s121, s122, s123, s124, s125, s126, s127, s128, s129, s130, s131, s132, s133, s134, s135, s136, s137, s138, s139, s140, s141, s142, s143, s144, s145, s146, s147, s148, s149, s150, s151, s152, s153, s154, s155] d) W) := hide (by
    intro W R 
    refine Eq.mpr (hF _ _ _ _) ?_
    have hHeld := KS W (unhide R)
    refine wpAnyH_ready (rs := [5]) (by kernel_rfl) (by simp) ?_
    refine AllReadyH.cons (o := { dst := some 34, op := Op.call { callee := Callee.value (Operand.func 8), args := #[Operand.tmp 32, Operand.tmp 33], argTypes := #[31, 23] }, type := 4, pos := "law.go:55", after := #[{ on := 3, ground := Ground.data }, { on := 4, ground := Ground.data }, { on := 2, ground := Ground.chain }], guard := none }) rfl (fun K hK => ?_) ?_
    · go_simp
      refine (cEv b vb qe ce ev _ y ((unhide Nb).keep (unhide R)) ((unhide HE).below (unhide R)) (unhide HCb) (unhide HXb) (by have := unhide HW; omega) (unhide HL)).mono ?_
      rintro e W1 ⟨rfl, bb⟩
      refine hK.out _ _ (KS _ (below_sub (unhide R) bb)) (fun hHeld => ?_)
      clear hK K
      refine Eq.mp (hF _ _ _ _) ?_
      exact dp_to (unhide st1 W1 (hide (below_sub (unhide R) bb))) (by kernel_rfl) rfl
    exact AllReadyH.nil
    )
  have st3 : Hid (∀ (W : World), Hid (Below U.heap.size U W) → F 12 #[false, false, false, false, false, false, false, false, false, false, false, false] (Act.mk #[s0, s1, s2, .slice qe ev.length ce, .pointer (some ⟨A, 0, none⟩), .pointer (some ⟨B, 0, none⟩), .pointer (some ⟨C, 0, none⟩), s7, s8, s9, s10, s11, s12, s13, s14, s15, s16, s17, s18, s19, s20, s21, s22, s23, s24, s25, s26, s27, s28, s29, s30, s31, s32, s33, s34, s35, s36, s37, s38, s39, s40, s41, s42, s43, s44, s45, s46, s47, s48, s49, s50, s51, s52, s53, s54, s55, s56, s57, s58, s59, s60, s61, s62, s63, s64, s65, s66, s67, s68, s69, s70, s71, s72, s73, s74, s75, s76, s77, s78, s79, s80, s81, s82, s83, s84, s85, s86, s87, s88, s89, s90, s91, s92, s93, s94, s95, s96, s97, s98, s99, s100, s101, s102, s103, s104, s105, s106, s107, s108, s109, s110, s111, s112, s113, s114, s115, s116, s117, s118, s119, s120, s121, s122, s123, s124, s125, s126, s127, s128, s129, s130, s131, s132, s133, s134, s135, s136, s137, s138, s139, s140, s141, s142, s143, s144, s145, s146, s147, s148, s149, s150, s151, s152, s153, s154, s155] d) W) := hide (by
    intro W R 
    refine Eq.mpr (hF _ _ _ _) ?_
    have hHeld := KS W (unhide R)
    refine wpAnyH_take (i := 0) (oi := { dst := some 29, op := Op.load 31 (Operand.tmp 4), type := 31, pos := "law.go:55", after := #[], guard := none }) (v := ?_) rfl (by kernel_rfl) (by kernel_rfl) (by kernel_rfl) (fun c a w => (unhide HP) c a _ _ w) (Or.inl ⟨by rfl, ?_⟩) (by assumption) ?_
    rotate_left
    · intro wq hSw
      go_simp
      with_reducible rfl
    simp only [Act.put, List.setIfInBounds_toArray, List.set_cons_zero, List.set_cons_succ]
    refine wpAnyH_take (i := 1) (oi := { dst := some 30, op := Op.move (Operand.tmp 3), type := 23, pos := "law.go:55", after := #[], guard := none }) (v := ?_) rfl (by kernel_rfl) (by kernel_rfl) (by kernel_rfl) (fun c a w => (unhide HP) c a _ _ w) (Or.inl ⟨by rfl, ?_⟩) (by assumption) ?_
    rotate_left
    · intro wq hSw
      go_simp
      with_reducible rfl
    simp only [Act.put, List.setIfInBounds_toArray, List.set_cons_zero, List.set_cons_succ]
    refine wpAnyH_take (i := 3) (oi := { dst := some 32, op := Op.load 31 (Operand.tmp 5), type := 31, pos := "law.go:55", after := #[], guard := none }) (v := ?_) rfl (by kernel_rfl) (by kernel_rfl) (by kernel_rfl) (fun c a w => (unhide HP) c a _ _ w) (Or.inl ⟨by rfl, ?_⟩) (by assumption) ?_
    rotate_left
    · intro wq hSw
      go_simp
      with_reducible rfl
    simp only [Act.put, List.setIfInBounds_toArray, List.set_cons_zero, List.set_cons_succ]
    refine wpAnyH_take (i := 4) (oi := { dst := some 33, op := Op.move (Operand.tmp 3), type := 23, pos := "law.go:55", after := #[], guard := none }) (v := ?_) rfl (by kernel_rfl) (by kernel_rfl) (by kernel_rfl) (fun c a w => (unhide HP) c a _ _ w) (Or.inl ⟨by rfl, ?_⟩) (by assumption) ?_
    rotate_left
    · intro wq hSw
      go_simp
      with_reducible rfl
    simp only [Act.put, List.setIfInBounds_toArray, List.set_cons_zero, List.set_cons_succ]
    refine wpAnyH_take (i := 6) (oi := { dst := some 35, op := Op.load 31 (Operand.tmp 6), type := 31, pos := "law.go:55", after := #[], guard := none }) (v := ?_) rfl (by kernel_rfl) (by kernel_rfl) (by kernel_rfl) (fun c a w => (unhide HP) c a _ _ w) (Or.inl ⟨by rfl, ?_⟩) (by assumption) ?_
    rotate_left
    · intro wq hSw
      go_simp
      with_reducible rfl
    simp only [Act.put, List.setIfInBounds_toArray, List.set_cons_zero, List.set_cons_succ]
    refine wpAnyH_take (i := 7) (oi := { dst := some 36, op := Op.move (Operand.tmp 3), type := 23, pos := "law.go:55", after := #[], guard := none }) (v := ?_) rfl (by kernel_rfl) (by kernel_rfl) (by kernel_rfl) (fun c a w => (unhide HP) c a _ _ w) (Or.inl ⟨by rfl, ?_⟩) (by assumption) ?_
    rotate_left
    · intro wq hSw
      go_simp
      with_reducible rfl
    simp only [Act.put, List.setIfInBounds_toArray, List.set_cons_zero, List.set_cons_succ]
    refine wpAnyH_ready (rs := [2]) (by kernel_rfl) (by simp) ?_
    refine AllReadyH.cons (o := { dst := some 31, op := Op.call { callee := Callee.value (Operand.func 8), args := #[Operand.tmp 29, Operand.tmp 30], argTypes := #[31, 23] }, type := 4, pos := "law.go:55", after := #[{ on := 0, ground := Ground.data }, { on := 1, ground := Ground.data }], guard := none }) rfl (fun K hK => ?_) ?_
    · go_simp
      refine (cEv a va qe ce ev _ x ((unhide Na).keep (unhide R)) ((unhide HE).below (unhide R)) (unhide HCa) (unhide HXa) (by have := unhide HW; omega) (unhide HL)).mono ?_
      rintro e W1 ⟨rfl, bb⟩
      refine hK.out _ _ (KS _ (below_sub (unhide R) bb)) (fun hHeld => ?_)
      clear hK K
      refine Eq.mp (hF _ _ _ _) ?_
      exact dp_to (unhide st2 W1 (hide (below_sub (unhide R) bb))) (by kernel_rfl) rfl
    exact AllReadyH.nil
    )
  exact dp_to (unhide st3 _ (hide (Below.refl _ _).drew)) (by kernel_rfl) rfl
end Go.Proofs.Ytkpdhkdegoincaa

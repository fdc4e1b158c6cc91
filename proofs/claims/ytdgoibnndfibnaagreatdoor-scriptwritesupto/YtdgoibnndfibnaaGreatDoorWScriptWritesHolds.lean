/- The law ScriptWrites holds where its arguments hold at most 1048576 values and letters: it returns true, and what it is given reads as it did. -/
import Derived.Test.YtdgoibnndfibnaaGreatDoorWS51
import Derived.Test.YtdgoibnndfibnaaGreatDoorWOpenScr
import Derived.SizedLaws
import Derived.Test.YtdgoibnndfibnaaGreatDoorWZat
import Derived.Test.YtdgoibnndfibnaaGreatDoorTie
import Derived.Test.YtdgoibnndfibnaaGreatDoorCards
import Derived.Deep.DeepHandedRow
import Derived.Deep.DeepWitnessRowRef
namespace Go.Proofs.YtdgoibnndfibnaaGreatDoor
open Go.ChangeShapes Go.WideShapes Go.ChangeAt Go.RowKit Go.Joins
theorem scriptWrites_reads (os:Os) {H:Type} (enc:TypeId × Value->H):∃ places,DataW.whole enc Tryz.prog ((World.doorLaid Tryz.prog 400 os).forCall (fun _ _=>0) ⟨#[],#[.agg #[.int .i64 0,.int .i64 0,.int .i64 0,.int .i64 0,.int .i64 0,.int .i64 0,.int .i64 0,.int .i64 0,.slice none 0 0,.slice none 0 0]],[]⟩).memory Tryz.f3.params.toList Rows.scriptWritesSpec.vars false (#[.agg #[.int .i64 0,.int .i64 0,.int .i64 0,.int .i64 0,.int .i64 0,.int .i64 0,.int .i64 0,.int .i64 0,.slice none 0 0,.slice none 0 0]]:Array Value).toList 8=some ([.agg [.agg [.agg [.lit (.int .i64 0),.lit (.int .i64 0),.lit (.int .i64 0),.lit (.int .i64 0)],.lit (.int .i64 0),.lit (.int .i64 0),.lit (.int .i64 0),.lit (.int .i64 0)],.nil,.nil]],[],places) :=
 ⟨[],by kernel_rfl⟩
set_option maxHeartbeats 4000000 in
set_option maxRecDepth 100000 in
theorem scriptWrites_lifted (os:Os) (started:os.Started) (H:Type) (enc:TypeId × Value->H) (F:Stop.Interp) :
    ReturnsInHanded {} Tryz.checked os 3 .any ((Rows.OpenSpec.upto Rows.scriptWritesSpec).preRow enc Tryz.prog Tryz.f3 Rows.scriptWritesUptoRow.domain false Rows.scriptWritesUptoRow.laid) (((Rows.OpenSpec.upto Rows.scriptWritesSpec).at F).post enc Tryz.prog Tryz.f3 false true false false):=by
  obtain ⟨places,hx⟩:=scriptWrites_reads os enc
  refine returnsInHanded_of_row (C:=Tryz.checked) (s:=(Rows.OpenSpec.upto Rows.scriptWritesSpec)) Tryz.own started (by kernel_rfl) Tryz.func3
    (witness_row_atRef (enc:=enc) (C:=Tryz.checked) false (World.doorLaid Tryz.prog 400 os) #[.agg #[.int .i64 0,.int .i64 0,.int .i64 0,.int .i64 0,.int .i64 0,.int .i64 0,.int .i64 0,.int .i64 0,.slice none 0 0,.slice none 0 0]] rfl (by kernel_rfl) (by kernel_rfl) (by kernel_rfl)
      (OpenSpec.preRow_of_cond 8 hx (by kernel_rfl) (fun k hk=>by cases hk;kernel_rfl) (by kernel_rfl) (laidMet_of_run' 8 (by kernel_rfl) (by kernel_rfl)))) ?_
  intro W base args ds gs before hval0 hW _ hcond hreach hL _ _
  have hval:∀ (j:Nat) t v,Tryz.f3.params[j]? = some t->args[j]? = some v->Value.okWide Tryz.prog W .any base t v:=hval0
  have hW':=hW
  obtain ⟨p,q,hA0,hV,rfl,hfz,hnd⟩:=hW
  have hA:DataW.TrodAll enc Tryz.prog W 0 (fun _=>true) true Tryz.f3.params.toList args.toList ds p:=hA0
  rw [Tryz.params3] at hA hval
  obtain ⟨v0,vs0,d0,ds0,p0,q0,hargs,rfl,rfl,h0,r0⟩:=trodAll_cons hA
  obtain ⟨rfl,rfl,rfl⟩:=trodAll_nil r0
  obtain rfl:args=#[v0]:=by cases args;simp_all
  obtain ⟨rfl,rfl⟩:=trodVars_none hV
  have lt0:∀ x ∈ p0,x.block < W.heap.size:=by obtain ⟨m,hm⟩:=h0;exact DataW.trod_lt m _ _ _ hm
  have k0:=h0
  have hbk:=hcond _ rfl
  have hbk2:=of_decide_eq_true hbk
  simp only [Rows.uptoBulkAll,List.append_nil] at hbk2
  obtain ⟨cs0,rfl,hsz0⟩:=okWide_struct Tryz.underlying29 (hval 0 29 v0 rfl rfl)
  obtain ⟨fuel0,hf0⟩:=h0
  obtain ⟨qa0,ca0,qo0,co0,us0,s0,hcs0,tx0,si0,ww0⟩:=open_scr (cs:=cs0.toList) (by simpa [Value.cells] using hf0) (by simp [hsz0,Tryz.cells29])
  obtain rfl:cs0=#[.int .i64 s0.cfg.d,.int .i64 s0.cfg.c,.int .i64 s0.cfg.s,.int .i64 s0.cfg.t,.int .i64 s0.cfg.h,.int .i64 s0.cfg.q,.int .i64 s0.cfg.w,.int .i64 s0.cfg.u,.slice qa0 s0.attrs.length ca0,.slice qo0 us0.length co0]:=by cases cs0;simp_all
  simp only at ww0
  have hw0:opsW s0.ops<=1048576:=by omega
  have hat0:s0.attrs.length<=1048576:=by omega
  clear hA0 hval0
  refine (scriptWrites_law (G_of_laid hL) qa0 ca0 qo0 co0 us0 s0 tx0 si0 hat0 hw0).mono fun e W' ⟨he,bel⟩=>?_
  subst he
  exact ⟨_,rfl,_,_,_,[],_,[],hW',trodAll_mk1 (shut_bool Tryz.underlying4 _),(trodAll_cons_mk (Below.trod Tryz.laidOut (by kernel_rfl) (of_decide_eq_true (by kernel_rfl)) k0 bel lt0) trodAll_mk0),rfl,bel.frame _,fun h=>by cases h⟩
theorem scriptWrites_row:Rows.ScriptWritesUptoSaid :=
  OpenClaim.holds_of_cond 3 Tryz.f3 rfl rfl rfl rfl rfl rfl rfl ⟨rfl,rfl,rfl,rfl,rfl⟩ rfl rfl rfl rfl rfl (by kernel_rfl) Tryz.func3 (by kernel_rfl)
    (of_decide_eq_true (by kernel_rfl)) (by unfold Func.isWrapper;first | (rw [if_pos (by decide +kernel)];kernel_rfl) | (rw [if_neg (by decide +kernel)];exact ⟨rfl,rfl⟩))
    (fun os started H enc _ F=>by rw [OpenClaim.pre_eq_preRow];exact scriptWrites_lifted os started H enc F)
/-- THE STATEMENT. -/
theorem scriptWrites_holds:Rows.ScriptWritesUptoCardSaid :=
  Claim7.holds_tied_plain_at .later [] _ _ _ _ scriptWrites_row (fun _ h=>by cases h) (by kernel_rfl) (fun _ h=>by cases h) scriptWritesUpto_row_tie rfl ⟨rfl,rfl⟩ (by kernel_rfl) rfl
    (fun f fn hf hfn=>by
      obtain rfl:f=3:=Option.some.inj ((show Tryz.prog.funcNamed "trommel/trommellaw25.ScriptWrites"=some 3 by kernel_rfl).symm.trans hf) |>.symm
      obtain rfl:fn=Tryz.f3:=(Option.some.inj (Tryz.func3.symm.trans hfn)).symm
      exact ⟨by kernel_rfl,fun j t ht=>by
        rw [Tryz.params3] at ht
        rcases j with _ | j
        · obtain rfl:t=29:=by simpa using ht.symm
          exact (show Tryz.prog.wantsStandIn 29=false by kernel_rfl)
        simp at ht
        ⟩)
    (by kernel_rfl)
end Go.Proofs.YtdgoibnndfibnaaGreatDoor

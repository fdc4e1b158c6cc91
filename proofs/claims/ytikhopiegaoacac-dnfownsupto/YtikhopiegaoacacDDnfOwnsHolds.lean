/- The law DnfOwns holds where its arguments hold at most 1048576 values and letters: it returns true, and what it is given reads as it did. -/
import Derived.Test.YtikhopiegaoacacDDoLaw
import Derived.Test.YtikhopiegaoacacDOpenTree
namespace Go.Proofs.Ytikhopiegaoacac
open Go.ChangeShapes Go.WideShapes Go.ChangeAt Go.RowKit Go.Joins

theorem dnfOwns_reads (os:Os) {H:Type} (enc:TypeId × Value→H):∃ places,DataW.whole enc Try.prog ((World.doorLaid Try.prog 400 os).forCall (fun _ _=>0) ⟨#[],#[.agg #[.int .i64 0,.string ⟨#[]⟩,.slice none 0 0,.slice none 0 0,.int .i64 0,.int .i64 0,.int .i64 0,.slice none 0 0],.int .i64 0],[]⟩).memory Try.f3.params.toList Rows.dnfOwnsSpec.vars false (#[.agg #[.int .i64 0,.string ⟨#[]⟩,.slice none 0 0,.slice none 0 0,.int .i64 0,.int .i64 0,.int .i64 0,.slice none 0 0],.int .i64 0]:Array Value).toList 8=some ([.agg [.agg [.lit (.int .i64 0),.lit (.string []),.nil,.nil,.lit (.int .i64 0),.lit (.int .i64 0)],.lit (.int .i64 0),.nil],.lit (.int .i64 0)],[],places) :=
  ⟨[],by kernel_rfl⟩
set_option maxRecDepth 100000 in
theorem dnfOwns_lifted (os:Os) (started:os.Started) (H:Type) (enc:TypeId × Value→H) (F:Stop.Interp) :
    ReturnsInHanded {} Try.checked os 3 .any ((Rows.OpenSpec.upto Rows.dnfOwnsSpec).preRow enc Try.prog Try.f3 Rows.dnfOwnsUptoRow.domain false Rows.dnfOwnsUptoRow.laid) (((Rows.OpenSpec.upto Rows.dnfOwnsSpec).at F).post enc Try.prog Try.f3 false true false false):=by
  obtain ⟨places,hx⟩:=dnfOwns_reads os enc
  refine returnsInHanded_of_row (C:=Try.checked) (s:=(Rows.OpenSpec.upto Rows.dnfOwnsSpec)) Try.own started (by kernel_rfl) Try.func3
    (witness_row_atRef (enc:=enc) (C:=Try.checked) false (World.doorLaid Try.prog 400 os) #[.agg #[.int .i64 0,.string ⟨#[]⟩,.slice none 0 0,.slice none 0 0,.int .i64 0,.int .i64 0,.int .i64 0,.slice none 0 0],.int .i64 0] rfl (by kernel_rfl) (by kernel_rfl) (by kernel_rfl)
      (OpenSpec.preRow_of_cond 8 hx (by kernel_rfl) (fun k hk=>by cases hk;kernel_rfl) (by kernel_rfl) (laidMet_of_run' 8 (by kernel_rfl) (by kernel_rfl)))) ?_
  intro W base args ds gs before hval0 hW _ hcond hreach hL _ _
  have hval:∀ (j:Nat) t v,Try.f3.params[j]? = some t→args[j]? = some v→Value.okWide Try.prog W .any base t v:=hval0
  have hW':=hW
  obtain ⟨p,q,hA0,hV,rfl,hfz,hnd⟩:=hW
  have hA:DataW.TrodAll enc Try.prog W 0 (fun _=>true) true Try.f3.params.toList args.toList ds p:=hA0
  rw [Try.params3] at hA hval
  obtain ⟨v0,vs0,d0,ds0,p0,q0,hargs,rfl,rfl,h0,r0⟩:=trodAll_cons hA
  obtain ⟨v1,vs1,d1,ds1,p1,q1,rfl,rfl,rfl,h1,r1⟩:=trodAll_cons r0
  obtain ⟨rfl,rfl,rfl⟩:=trodAll_nil r1
  obtain rfl:args=#[v0,v1]:=by cases args;simp_all
  obtain ⟨rfl,rfl⟩:=trodVars_none hV
  have lt0:∀ x ∈ p0,x.block < W.heap.size:=by obtain ⟨m,hm⟩:=h0;exact DataW.trod_lt m _ _ _ hm
  have k0:=h0
  have lt1:∀ x ∈ p1,x.block < W.heap.size:=by obtain ⟨m,hm⟩:=h1;exact DataW.trod_lt m _ _ _ hm
  have k1:=h1
  obtain ⟨cs0,rfl,hsz0⟩:=okWide_struct Try.underlying28 (hval 0 28 v0 rfl rfl)
  obtain ⟨fuel0,hf0⟩:=h0
  obtain ⟨vv0,hcs0,tt0,nn0,ww0⟩:=open_node fuel0 cs0.toList _ (by simpa [Value.cells] using hf0) (by simp [hsz0,Try.cells28])
  obtain rfl:cs0=(encV vv0).toArray:=by cases cs0;simp_all
  simp only at ww0
  obtain ⟨n1,rfl,rfl,rfl,wf1⟩:=Go.ChangeShapes.open_int Try.underlying3 (hval 1 3 v1 rfl rfl) h1
  have hbk:=hcond _ rfl
  have hbk2:=of_decide_eq_true hbk
  simp only [Rows.uptoBulkAll,List.append_nil] at hbk2
  clear hA0 hval0
  refine (dnfOwns_any tt0 vv0 n1 W nn0 (by omega)).mono fun e W' ⟨he,bel⟩=>?_
  subst he
  exact ⟨_,rfl,_,_,_,[],_,[],hW',trodAll_mk1 (shut_bool Try.underlying4 _),(trodAll_cons_mk (Below.trod Try.laidOut (by kernel_rfl) (of_decide_eq_true (by kernel_rfl)) k0 bel lt0) (trodAll_cons_mk (Below.trod Try.laidOut (by kernel_rfl) (of_decide_eq_true (by kernel_rfl)) k1 bel lt1) trodAll_mk0)),rfl,bel.frame _,fun h=>by cases h⟩

/-- THE STATEMENT. -/
theorem dnfOwns_holds:Rows.DnfOwnsUptoSaid :=
  OpenClaim.holds_of_cond 3 Try.f3 rfl rfl rfl rfl rfl rfl rfl ⟨rfl,rfl,rfl,rfl,rfl⟩ rfl rfl rfl rfl rfl (by kernel_rfl) Try.func3 (by kernel_rfl)
    (of_decide_eq_true (by kernel_rfl)) (by unfold Func.isWrapper;first | (rw [if_pos (by decide +kernel)];kernel_rfl) | (rw [if_neg (by decide +kernel)];exact ⟨rfl,rfl⟩))
    (fun os started H enc _ F=>by rw [OpenClaim.pre_eq_preRow];exact dnfOwns_lifted os started H enc F)
end Go.Proofs.Ytikhopiegaoacac

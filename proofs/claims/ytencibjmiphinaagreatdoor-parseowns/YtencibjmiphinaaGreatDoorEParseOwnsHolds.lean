/- The law ParseOwns holds: it returns true, and what it is given reads as it did. -/
import Derived.Test.YtencibjmiphinaaGreatDoorEZay
import Derived.SizedLaws
import Derived.Test.YtencibjmiphinaaGreatDoorTie
import Derived.Test.YtencibjmiphinaaGreatDoorCards
import Derived.Deep.DeepHandedRow
import Derived.Deep.DeepWitnessRowRef
namespace Go.Proofs.YtencibjmiphinaaGreatDoor
open Go.ChangeShapes Go.WideShapes Go.ChangeAt Go.RowKit Go.Joins
theorem str_sized {H:Type} {ts:List TypeId} {ds:List (DataW H)} {a:List UInt8} (h:(DataW.weightsEach Tryz.prog ts ds).all (·<=reachBytes)=true) {j:Nat} (ht:ts[j]? = some 9) (hd:ds[j]? = some (.lit (.string a))):a.length<=reachBytes:=by
 have h1:a.length ∈ (DataW.lit (.string a):DataW H).weights Tryz.prog 9:=by simp [DataW.weights]
 have:=List.all_eq_true.1 h _ (DataW.weights_mem_each ht hd _ h1)
 exact of_decide_eq_true this
theorem parseOwns_reads (os:Os) {H:Type} (enc:TypeId × Value->H):∃ places,DataW.whole enc Tryz.prog ((World.doorLaid Tryz.prog 400 os).forCall (fun _ _=>0) ⟨#[],#[.slice none 0 0,.string ⟨#[]⟩],[]⟩).memory Tryz.f8.params.toList Rows.parseOwnsSpec.vars false (#[.slice none 0 0,.string ⟨#[]⟩]:Array Value).toList 8=some ([.nil,.lit (.string [])],[],places) :=
 ⟨[],by kernel_rfl⟩
set_option maxHeartbeats 4000000 in
set_option maxRecDepth 100000 in
theorem parseOwns_lifted (os:Os) (started:os.Started) (H:Type) (enc:TypeId × Value->H) (F:Stop.Interp) :
    ReturnsInHanded {} Tryz.checked os 8 .any ((OpenSpec.ofChange Rows.parseOwnsSpec).preRow enc Tryz.prog Tryz.f8 Rows.parseOwnsRow.domain false Rows.parseOwnsRow.laid) (((OpenSpec.ofChange Rows.parseOwnsSpec).at F).post enc Tryz.prog Tryz.f8 false true false false):=by
  obtain ⟨places,hx⟩:=parseOwns_reads os enc
  refine returnsInHanded_of_row (C:=Tryz.checked) (s:=(OpenSpec.ofChange Rows.parseOwnsSpec)) Tryz.own started (by kernel_rfl) Tryz.func8
    (witness_row_atRef (enc:=enc) (C:=Tryz.checked) false (World.doorLaid Tryz.prog 400 os) #[.slice none 0 0,.string ⟨#[]⟩] rfl (by kernel_rfl) (by kernel_rfl) (by kernel_rfl)
      (OpenSpec.preRow_of_cond 8 hx (by kernel_rfl) (fun k hk=>by cases hk) (by kernel_rfl) (laidMet_of_run' 8 (by kernel_rfl) (by kernel_rfl)))) ?_
  intro W base args ds gs before hval0 hW _ hcond hreach hL _ _
  have hval:∀ (j:Nat) t v,Tryz.f8.params[j]? = some t->args[j]? = some v->Value.okWide Tryz.prog W .any base t v:=hval0
  have hW':=hW
  obtain ⟨p,q,hA0,hV,rfl,hfz,hnd⟩:=hW
  have hA:DataW.TrodAll enc Tryz.prog W 0 (fun _=>true) true Tryz.f8.params.toList args.toList ds p:=hA0
  rw [Tryz.params8] at hA hval
  obtain ⟨v0,vs0,d0,ds0,p0,q0,hargs,rfl,rfl,h0,r0⟩:=trodAll_cons hA
  obtain ⟨v1,vs1,d1,ds1,p1,q1,rfl,rfl,rfl,h1,r1⟩:=trodAll_cons r0
  obtain ⟨rfl,rfl,rfl⟩:=trodAll_nil r1
  obtain rfl:args=#[v0,v1]:=by cases args;simp_all
  obtain ⟨rfl,rfl⟩:=trodVars_none hV
  have lt0:∀ x ∈ p0,x.block < W.heap.size:=by obtain ⟨m,hm⟩:=h0;exact DataW.trod_lt m _ _ _ hm
  have k0:=h0
  have lt1:∀ x ∈ p1,x.block < W.heap.size:=by obtain ⟨m,hm⟩:=h1;exact DataW.trod_lt m _ _ _ hm
  have k1:=h1
  obtain ⟨a0,len0,cap0,rfl⟩:=okWide_slice Tryz.underlying35 (hval 0 35 v0 rfl rfl)
  obtain ⟨fuel0,hf0⟩:=h0
  obtain ⟨qe0,ce0,ev0,ee0,ss0,gg0⟩:=open_sl (enc':=Sc.encA) (v:=.slice a0 len0 cap0) Tryz.underlying35 Tryz.cells62 (by decide) dec_at (by simpa [Value.cells] using hf0)
  obtain ⟨rfl,rfl,rfl⟩:a0=qe0/\len0=ev0.length/\cap0=ce0:=by injection ee0 with x1 x2 x3;exact ⟨x1,x2,x3⟩
  have hl0:ev0.length * 24<=140737488355328:=by
    rcases gg0 with rfl | ⟨D,E,hD,hlD⟩
    · simp
    · simp only at hD
      have hsz:(D.length + E.length) * Tryz.prog.bytesOf 62<=reachBytes:=sized_slice hreach (j:=0) rfl (by rw [hD];rfl) Tryz.underlying35
      rw [Tryz.bytes62,hlD] at hsz
      unfold reachBytes at hsz
      omega
  obtain ⟨s1,rfl,rfl,rfl,_⟩:=Go.ChangeMaps.open_string Tryz.underlying9 (hval 1 9 v1 rfl rfl) h1
  have z1:s1.size<=140737488351232:=by have:=str_sized hreach (j:=1) rfl rfl;unfold reachBytes at this;simpa using this
  clear hA0 hval0
  refine (parseOwns_any a0 cap0 ev0 s1 W (G_of_laid hL) hl0 ss0.1 (atsOf_sl ss0)).mono fun e W' ⟨he,bel⟩=>?_
  subst he
  exact ⟨_,rfl,_,_,_,[],_,[],hW',trodAll_mk1 (shut_bool Tryz.underlying4 _),(trodAll_cons_mk (Below.trod Tryz.laidOut (by kernel_rfl) (of_decide_eq_true (by kernel_rfl)) k0 bel lt0) (trodAll_cons_mk (Below.trod Tryz.laidOut (by kernel_rfl) (of_decide_eq_true (by kernel_rfl)) k1 bel lt1) trodAll_mk0)),rfl,bel.frame _,fun h=>by cases h⟩
theorem parseOwns_row:Rows.ParseOwnsSaid :=
  OpenClaim.holds_of_cond 8 Tryz.f8 rfl rfl rfl rfl rfl rfl rfl ⟨rfl,rfl,rfl,rfl,rfl⟩ rfl rfl rfl rfl rfl (by kernel_rfl) Tryz.func8 (by kernel_rfl)
    (of_decide_eq_true (by kernel_rfl)) (by unfold Func.isWrapper;first | (rw [if_pos (by decide +kernel)];kernel_rfl) | (rw [if_neg (by decide +kernel)];exact ⟨rfl,rfl⟩))
    (fun os started H enc _ F=>by rw [OpenClaim.pre_eq_preRow];exact parseOwns_lifted os started H enc F)
/-- THE STATEMENT. -/
theorem parseOwns_holds:Rows.ParseOwnsCardSaid :=
  Claim7.holds_tied_plain_at .later [] _ _ _ _ parseOwns_row (fun _ h=>by cases h) (by kernel_rfl) (fun _ h=>by cases h) parseOwns_row_tie rfl ⟨rfl,rfl⟩ (by kernel_rfl) rfl
    (fun f fn hf hfn=>by
      obtain rfl:f=8:=Option.some.inj ((show Tryz.prog.funcNamed "trommel/trommellaw05.ParseOwns"=some 8 by kernel_rfl).symm.trans hf) |>.symm
      obtain rfl:fn=Tryz.f8:=(Option.some.inj (Tryz.func8.symm.trans hfn)).symm
      exact ⟨by kernel_rfl,fun j t ht=>by
        rw [Tryz.params8] at ht
        rcases j with _ | j
        · obtain rfl:t=35:=by simpa using ht.symm
          exact (show Tryz.prog.wantsStandIn 35=false by kernel_rfl)
        rcases j with _ | j
        · obtain rfl:t=9:=by simpa using ht.symm
          exact (show Tryz.prog.wantsStandIn 9=false by kernel_rfl)
        simp at ht
        ⟩)
    (by kernel_rfl)
end Go.Proofs.YtencibjmiphinaaGreatDoor

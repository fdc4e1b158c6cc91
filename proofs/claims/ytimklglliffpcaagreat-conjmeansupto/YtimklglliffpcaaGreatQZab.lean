/- What iterating over lists wants. -/
import Derived.Test.YtimklglliffpcaaGreatQZaa
import Derived.RangeFuncNested
import Derived.RangeFuncBound
import Derived.RangeFuncCalls
import Derived.RangeFuncLeaves
import Derived.RangeFuncBox
import Derived.Shelf.Abstract
import Derived.OwnWalkIn
import Derived.TacticsInMore
import Derived.LoopNIn
import Derived.LoopIn
import Derived.Lib.SlicesCompact
import Derived.Sort.Walk0
import Derived.Test.YtimklglliffpcaaGreatQSh
import Derived.Lib.OwnBridge
import Derived.Lib.SliceRun
namespace Go.Proofs.YtimklglliffpcaaGreat
open Go.RowKit Go.Sort Go.Shelf

theorem below_undrew {w w':World} (h:Below w.drew.heap.size w.drew w'):Below w.heap.size w w':=⟨h.os,h.tape,h.output,h.size,h.block⟩
def Fr:Fence:={ fn:=fun _=>True }
end Go.Proofs.YtimklglliffpcaaGreat
namespace Go.Proofs.YtimklglliffpcaaGreat
open Go.RowKit Go.Sort Go.Shelf

attribute [local go_sem] Oper.semAt_some

theorem intAt {w:World} {q:Option Addr} {c:Nat} {l:List Int} {j:Nat} {x:Int} (h:SlOf encI 1 w q c l) (hj:l[j]? = some x):∃ b off,q=some ⟨b,off,none⟩∧b < w.heap.size∧w.cell? ⟨b,off + j,none⟩=some (.int .i64 x):=by
  obtain ⟨b,off,hq,hb,hc⟩:=h.2.2.2.at hj
  exact ⟨b,off,hq,hb,by have:=hc 0 (by omega);rw [Nat.mul_one] at this;exact this⟩

set_option maxRecDepth 100000 in
set_option maxHeartbeats 2000000 in
theorem valI_in (F:Fence) (n:Nat) (h53:F.fn 160) (hro:F.round=none) (hn:1≤n) (l Bs n₀:Nat) (p:Option Addr) (c:Nat) (zs:List Int) (hz:zs.length≤100000000000000) (J Jx:List Int→World→Prop)
    (W:World)
    (hY:∀ pre x W,J pre W→pre.length < zs.length→YieldAt F (n - 1) Tryz.prog l #[.int .i64 x] W fun e W' =>
      (e=.returned (.bool true)∧J (pre ++ [x]) W'∧Below n₀ W W') ∨ (e=.returned (.bool false)∧Jx (pre ++ [x]) W'))
    (hBs:W.cell? ⟨Bs,0,none⟩=some (.slice p zs.length c)) (hc:∀ j x,zs[j]? = some x→∃ b off,p=some ⟨b,off,none⟩∧b < n₀∧W.cell? ⟨b,off + j,none⟩=some (.int .i64 x)) (h0:J [] W) :
    CallsIn F n Tryz.prog 160 #[.func (.yield l) #[] #[],.pointer (some ⟨Bs,0,none⟩)] W fun e W'=>(∃ v,e=.returned v) ∧
      ((∃ ys,ys=zs∧J ys W') ∨ (∃ pre,pre <+: zs∧Jx pre W')):=by
  have hz0:(zs.length:Int)≤100000000000000:=by omega
  refine callsIn_of_wp Tryz.func160 rfl h53 ?_ hro
  simp only [Tryz.ntmps160,List.size_toArray,List.length_cons,List.length_nil,Nat.reduceAdd,Nat.reduceSub,Array.replicate_succ,Array.replicate_zero,List.push_toArray,List.append_toArray,List.nil_append,List.cons_append]
  gi_wp2
  gi_loopw [7] (fun i wr=>∃ k:Nat,k≤zs.length∧i=.int .i64 k∧J (zs.take k) wr∧Below n₀ W wr)
    (fun i _=>zs.length - (intOf i).toNat)
  case atStart=>exact ⟨0,Nat.zero_le _,rfl,h0,Below.refl _ _⟩
  case round =>
    obtain ⟨k,hk,rfl,hJs,hnx⟩:=hrel
    by_cases hlt:k < zs.length
    · obtain ⟨x,hx,_⟩:=get_at hlt
      obtain ⟨b,off,hp,hb,c0⟩:=hc k x hx
      have d0:=(hnx.cell (p:=⟨b,off + k,none⟩) hb).trans c0
      obtain ⟨fn,tmps,assign,body,hy,hR⟩:=hY _ x _ hJs (by rw [List.length_take];omega)
      have hn1:=hide hnx
      have ki0:(0:Int)≤(k:Int):=by omega
      have ki1:(k:Int) < (zs.length:Int):=by omega
      have HX:=hide (take_snoc_of hx)
      subst hp
      clear c0 hc hx hnx
      gi_wp2
      refine hR.mono ?_
      rintro e W3 (⟨rfl,hJ3,hk3⟩ | ⟨rfl,hJx3⟩)
      · gi_wp2
        go_roundw
        case rel=>exact ⟨k + 1,by omega,by go_num,by rw [uh HX];exact hJ3,(uh hn1).trans hk3⟩
        case measure=>simp [intOf];omega
      · gi_wp2
        refine bodyPost_ret (results_none rfl _ _ _) rfl ?_
        exact ⟨⟨_,rfl⟩,.inr ⟨_,by rw [← uh HX];exact List.take_prefix _ _,hJx3⟩⟩
    · obtain rfl:k=zs.length:=by omega
      have ki1:¬ (zs.length:Int) < (zs.length:Int):=by omega
      gi_wp2
      go_end0
      exact ⟨⟨_,rfl⟩,.inl (by rw [List.take_length] at hJs;exact hJs)⟩
theorem valI_stops (F:Fence) (n:Nat) (h53:F.fn 160) (hro:F.round=none) (hn:1≤n) (Bs n₀:Nat) (p:Option Addr) (c:Nat) (zs:List Int) (hz:zs.length≤100000000000000) (w:World) (hBs:Bs < w.heap.size) (hn₀:n₀≤w.heap.size)
    (hcell:w.cell? ⟨Bs,0,none⟩=some (.slice p zs.length c)) (hc:∀ j x,zs[j]? = some x→∃ b off,p=some ⟨b,off,none⟩∧b < n₀∧w.cell? ⟨b,off + j,none⟩=some (.int .i64 x)) :
    SeqStopsK F n Tryz.prog 160 #[.pointer (some ⟨Bs,0,none⟩)] (fun x:Int=>#[.int .i64 x]) (Below n₀) (fun ys=>ys=zs) (fun pre=>pre <+: zs) zs.length w:=fun l J Jx W hW _ _ hY h0=>by
  refine valI_in F n h53 hro hn l Bs n₀ p c zs hz J Jx W hY ((hW.cell (p:=⟨Bs,0,none⟩) hBs).trans hcell) (fun j x hj=>?_) h0
  obtain ⟨b,off,hp,hb,c0⟩:=hc j x hj
  exact ⟨b,off,hp,hb,(hW.cell (p:=⟨b,off + j,none⟩) (by exact Nat.lt_of_lt_of_le hb hn₀)).trans c0⟩
theorem flat_oneI (x:Int):(flatK encI 1 [x].toArray).toList=[.int .i64 x]:=by
  apply List.ext_getElem?
  intro j
  by_cases hj:j < 1
  · have:=flat_at (enc:=encI) (k:=1) (l:=[x]) (j:=0) (x:=x) rfl j hj
    rw [Nat.zero_mul,Nat.zero_add] at this
    rw [this]
    have hm:j=0:=by omega
    rw [hm];rfl
  · rw [List.getElem?_eq_none (by simp [flatK];omega),List.getElem?_eq_none (by simp;omega)]
theorem flat_snocI (l:List Int) (x:Int):(flatK encI 1 (l ++ [x]).toArray).toList=(flatK encI 1 l.toArray).toList ++ [.int .i64 x]:=by rw [flat_app encI 1 (by decide),flat_oneI]
theorem newsI_blk {w:World} {b:Nat} {x:Int} (h:w.heap[b]? = some (.cells #[.int .i64 x] 3 (0,0))):∀ (j:Nat) (u:Value),[Value.int .i64 x][j]? = some u→w.cell? ((⟨b,0,none⟩:Addr).add j)=some u:=by
  intro j u hj
  rw [add_plain,Nat.zero_add]
  have hc:w.cell? ⟨b,j,none⟩=(#[.int .i64 x]:Array Value)[j]?:=(by unfold World.cell?;simp [h])
  rw [hc]
  simpa using hj

set_option maxRecDepth 100000 in
set_option maxHeartbeats 2000000 in
theorem appI_in (F:Fence) (n:Nat) (h60:F.fn 186) (h53:F.fn 160) (hro:F.round=none) (hn:3≤n) (Bs:Nat) (p:Option Addr) (c:Nat) (zs:List Int) (hz:zs.length * 8≤140737488355328) (w:World) (hBs:Bs < w.heap.size)
    (hcell:w.cell? ⟨Bs,0,none⟩=some (.slice p zs.length c)) (hc:SlOf encI 1 w p c zs) :
    CallsIn F n Tryz.prog 186 #[.slice none 0 0,.func (.func 160) #[] #[.pointer (some ⟨Bs,0,none⟩)]] w fun e w'=>(∃ q cap,e=.returned (.slice q zs.length cap)∧OwnK encI 3 1 w.heap.size w' q cap zs)∧Below w.heap.size w w':=by
  have h1:1≤n:=by omega
  obtain ⟨i0,hi,hz0,hz1,hz2⟩:=info_parts Tryz.info3
  refine callsIn_of_wp_marks Tryz.func186 rfl h60 ?_ hro
  simp only [Tryz.ntmps186,List.size_toArray,List.length_cons,List.length_nil,Nat.reduceAdd,Nat.reduceSub,Array.replicate_succ,Array.replicate_zero,List.push_toArray,List.append_toArray,List.nil_append,List.cons_append]
  gi_wp2
  have bS:=Boxed.new w 23 (.slice none 0 0)
  have hB0:Below w.heap.size w (w.alloc (.cells #[.slice none 0 0] 23)):=(Below.refl _ w).alloc (Nat.le_refl _) _
  have hsz:(w.alloc (.cells #[.slice none 0 0] 23)).heap.size=w.heap.size + 1:=by simp
  have hcell':=(hB0.cell (p:=⟨Bs,0,none⟩) hBs).trans hcell
  have hc':∀ j x,zs[j]? = some x→∃ b off,p=some ⟨b,off,none⟩∧b < w.heap.size∧(w.alloc (.cells #[.slice none 0 0] 23)).cell? ⟨b,off + j,none⟩=some (.int .i64 x):=fun j x hj=>by
    obtain ⟨b,off,hp,hb,c0⟩:=intAt hc hj
    exact ⟨b,off,hp,hb,(hB0.cell (p:=⟨b,off + j,none⟩) hb).trans c0⟩
  obtain ⟨W0,hW0⟩:∃ W0,w.alloc (.cells #[.slice none 0 0] 23)=W0:=⟨_,rfl⟩
  rw [hW0] at bS hB0 hsz hcell' hc' ⊢
  clear hW0 hcell hc
  refine wpIn_rangeFunc_ownH hro h1 (gf:=160) (lb:=#[.pointer (some ⟨Bs,0,none⟩)]) rfl h53 (enters_of Tryz.func160 (by kernel_rfl) rfl)
    (valI_stops F (n - 1) h53 hro (by omega) Bs w.heap.size p c zs (by omega) W0 (by omega) (by omega) hcell' hc') belowK_t (belowK_b (by omega)) (Below.refl _ _) (fun _=>rfl)
    (fun pre W=>(∃ v,Boxed W w.heap.size 23 v∧W.ownsRow w.heap.size 3 1 v pre.length (flatK encI 1 pre.toArray).toList∧True)∧Below w.heap.size w W)
    (fun _ _ _=>False)
    (OwnFrom.and (Own.from (holdsRow_own w.heap.size w.heap.size 23 3 1 (fun pre:List Int=>pre.length) (fun pre=>(flatK encI 1 pre.toArray).toList) (fun _ _=>True)) _) (ownFrom_below (Nat.le_refl _) (by omega)))
    (fun _ _ _ _ _ hs _ _=>hs)
    ⟨⟨_,bS,by simpa [flatK] using World.ownsRow_nil W0 w.heap.size 3 1,trivial⟩,hB0⟩
    (fun x a' _=>a'={ tmps:=#[.slice none 0 0,.func (.func 160) #[] #[.pointer (some ⟨Bs,0,none⟩)],.pointer (some ⟨w.heap.size,0,none⟩),undef,.slice none 0 0,.int .i64 x,.func (.func 160) #[] #[.pointer (some ⟨Bs,0,none⟩)],.int .i64 x,undef,undef,undef,undef,undef],defers:=[] })
    (fun _ _ _ _ _ _ hs _ _=>hs)
    ?assign ?body ?done ?stop
  case assign =>
    rintro l pre x W K hi hK
    gi_wp2
    exact hK _ _ (KeepsFrom.refl _ _) (Below.refl _ _) hi rfl
  case body =>
    rintro l pre x a' W hl ⟨r,hr⟩ ⟨⟨v,bv,hrow,_⟩,hB1⟩ rfl hlt
    have cB:=bv.cell
    obtain ⟨q,cap,rfl,_⟩:=OwnK.shape hrow
    have hsW:=hB1.size
    gi_wp2_with (gi_at_builtin;refine wpListIn_append_own _ rfl _ _ 23 rfl w.heap.size 3 i0 (.int .i64 0) 1 8 Tryz.underlying23 hi hz0 hz1 hz2 rfl (by decide) _ _ _ rfl (hrow.alloc _) ⟨W.heap.size,0,none⟩ 1 1 [.int .i64 x] rfl rfl (newsI_blk (World.alloc_heap_new W _)) (by simp [Value.oneCell']) (by unfold maxLen;omega) (by omega) (by simp;omega) ?_;intro v' w1 hown' hgrow _;obtain ⟨g',cap',rfl⟩:=ownsRow_succ hown';obtain ⟨hv1,hv2,hr2,hk2,hb2⟩:=bv.appended (by decide) hrow hB1.size (Nat.le_refl _) hown' hgrow;have hc1:=hv1.cell;have hf1:=hv1.frozen)
    exact ⟨hk2.from _,hb2,⟨_,hv2,(by rw [flat_snocI,List.length_append];exact hr2),trivial⟩,hB1.trans hb2⟩
  case done =>
    rintro D ys W hD rfl ⟨⟨v,bv,hrow,_⟩,hB1⟩ hK
    have cB:=bv.cell
    obtain ⟨q,cap,rfl,_⟩:=OwnK.shape hrow
    gi_wp2
    refine ⟨by simp,.inl ⟨_,_,rfl,run_takeDeferred hK, ?_⟩⟩
    exact ⟨_,results_tmp rfl _ _ _,⟨q,cap,rfl,ownsRow_putObj hrow _ hK rfl⟩,hB1.trans (belowK_b (w:=w) (Nat.le_refl _) W D _ _ (by omega) hK rfl rfl)⟩
  case stop =>
    rintro D c pre W _ _ h _
    exact h.elim
theorem appI (Bs:Nat) (p:Option Addr) (c:Nat) (zs:List Int) (hz:zs.length * 8≤140737488355328) (w:World) (hBs:Bs < w.heap.size) (hcell:w.cell? ⟨Bs,0,none⟩=some (.slice p zs.length c)) (hc:SlOf encI 1 w p c zs) :
    Calls Tryz.prog 186 #[.slice none 0 0,.func (.func 160) #[] #[.pointer (some ⟨Bs,0,none⟩)]] w fun e w'=>(∃ q cap,e=.returned (.slice q zs.length cap)∧OwnK encI 3 1 w.heap.size w' q cap zs)∧Below w.heap.size w w' :=
  (appI_in Fr 5 trivial trivial rfl (by decide) Bs p c zs hz w hBs hcell hc).calls fun _ _ h=>by cases h

theorem valuesI (q:Option Addr) (n c:Nat) (w:World) :
    Calls Tryz.prog 118 #[.slice q n c] w fun e w'=>e=.returned (.func (.func 160) #[] #[.pointer (some ⟨w.heap.size,0,none⟩)])∧w'=w.alloc (.cells #[.slice q n c] 23):=by
  go_enter Tryz.func118,Tryz.ntmps118
  go_wp2
  go_ret
  exact ⟨rfl,rfl⟩
theorem collectI (Bs:Nat) (p:Option Addr) (c:Nat) (zs:List Int) (hz:zs.length * 8≤140737488355328) (w:World) (hBs:Bs < w.heap.size) (hcell:w.cell? ⟨Bs,0,none⟩=some (.slice p zs.length c)) (hc:SlOf encI 1 w p c zs) :
    Calls Tryz.prog 158 #[.func (.func 160) #[] #[.pointer (some ⟨Bs,0,none⟩)]] w fun e w'=>(∃ q cap,e=.returned (.slice q zs.length cap)∧OwnK encI 3 1 w.heap.size w' q cap zs)∧Below w.heap.size w w':=by
  have h:=appI Bs p c zs hz w hBs hcell hc
  clear hcell hc
  go_enter Tryz.func158,Tryz.ntmps158
  go_wp2_with (go_at_call 186;refine h.mono ?_;rintro e w1 ⟨⟨q,cap,rfl,ho⟩,hb⟩)
  go_ret
  exact ⟨⟨q,cap,rfl,ho⟩,hb⟩
end Go.Proofs.YtimklglliffpcaaGreat
namespace Go.Proofs.YtimklglliffpcaaGreat
open Go.RowKit Go.Sort Go.Shelf

attribute [local go_sem] Oper.semAt_some

theorem strAt {w:World} {q:Option Addr} {c:Nat} {l:List ByteArray} {j:Nat} {x:ByteArray} (h:SlOf encS 1 w q c l) (hj:l[j]? = some x):∃ b off,q=some ⟨b,off,none⟩∧b < w.heap.size∧w.cell? ⟨b,off + j,none⟩=some (.string x):=by
  obtain ⟨b,off,hq,hb,hc⟩:=h.2.2.2.at hj
  exact ⟨b,off,hq,hb,by have:=hc 0 (by omega);rw [Nat.mul_one] at this;exact this⟩

set_option maxRecDepth 100000 in
set_option maxHeartbeats 2000000 in
theorem valS_in (F:Fence) (n:Nat) (h53:F.fn 163) (hro:F.round=none) (hn:1≤n) (l Bs n₀:Nat) (p:Option Addr) (c:Nat) (zs:List ByteArray) (hz:zs.length≤100000000000000) (J Jx:List ByteArray→World→Prop)
    (W:World)
    (hY:∀ pre x W,J pre W→pre.length < zs.length→YieldAt F (n - 1) Tryz.prog l #[.string x] W fun e W' =>
      (e=.returned (.bool true)∧J (pre ++ [x]) W'∧Below n₀ W W') ∨ (e=.returned (.bool false)∧Jx (pre ++ [x]) W'))
    (hBs:W.cell? ⟨Bs,0,none⟩=some (.slice p zs.length c)) (hc:∀ j x,zs[j]? = some x→∃ b off,p=some ⟨b,off,none⟩∧b < n₀∧W.cell? ⟨b,off + j,none⟩=some (.string x)) (h0:J [] W) :
    CallsIn F n Tryz.prog 163 #[.func (.yield l) #[] #[],.pointer (some ⟨Bs,0,none⟩)] W fun e W'=>(∃ v,e=.returned v) ∧
      ((∃ ys,ys=zs∧J ys W') ∨ (∃ pre,pre <+: zs∧Jx pre W')):=by
  have hz0:(zs.length:Int)≤100000000000000:=by omega
  refine callsIn_of_wp Tryz.func163 rfl h53 ?_ hro
  simp only [Tryz.ntmps163,List.size_toArray,List.length_cons,List.length_nil,Nat.reduceAdd,Nat.reduceSub,Array.replicate_succ,Array.replicate_zero,List.push_toArray,List.append_toArray,List.nil_append,List.cons_append]
  gi_wp2
  gi_loopw [7] (fun i wr=>∃ k:Nat,k≤zs.length∧i=.int .i64 k∧J (zs.take k) wr∧Below n₀ W wr)
    (fun i _=>zs.length - (intOf i).toNat)
  case atStart=>exact ⟨0,Nat.zero_le _,rfl,h0,Below.refl _ _⟩
  case round =>
    obtain ⟨k,hk,rfl,hJs,hnx⟩:=hrel
    by_cases hlt:k < zs.length
    · obtain ⟨x,hx,_⟩:=get_at hlt
      obtain ⟨b,off,hp,hb,c0⟩:=hc k x hx
      have d0:=(hnx.cell (p:=⟨b,off + k,none⟩) hb).trans c0
      obtain ⟨fn,tmps,assign,body,hy,hR⟩:=hY _ x _ hJs (by rw [List.length_take];omega)
      have hn1:=hide hnx
      have ki0:(0:Int)≤(k:Int):=by omega
      have ki1:(k:Int) < (zs.length:Int):=by omega
      have HX:=hide (take_snoc_of hx)
      subst hp
      clear c0 hc hx hnx
      gi_wp2
      refine hR.mono ?_
      rintro e W3 (⟨rfl,hJ3,hk3⟩ | ⟨rfl,hJx3⟩)
      · gi_wp2
        go_roundw
        case rel=>exact ⟨k + 1,by omega,by go_num,by rw [uh HX];exact hJ3,(uh hn1).trans hk3⟩
        case measure=>simp [intOf];omega
      · gi_wp2
        refine bodyPost_ret (results_none rfl _ _ _) rfl ?_
        exact ⟨⟨_,rfl⟩,.inr ⟨_,by rw [← uh HX];exact List.take_prefix _ _,hJx3⟩⟩
    · obtain rfl:k=zs.length:=by omega
      have ki1:¬ (zs.length:Int) < (zs.length:Int):=by omega
      gi_wp2
      go_end0
      exact ⟨⟨_,rfl⟩,.inl (by rw [List.take_length] at hJs;exact hJs)⟩
theorem valS_stops (F:Fence) (n:Nat) (h53:F.fn 163) (hro:F.round=none) (hn:1≤n) (Bs n₀:Nat) (p:Option Addr) (c:Nat) (zs:List ByteArray) (hz:zs.length≤100000000000000) (w:World) (hBs:Bs < w.heap.size) (hn₀:n₀≤w.heap.size)
    (hcell:w.cell? ⟨Bs,0,none⟩=some (.slice p zs.length c)) (hc:∀ j x,zs[j]? = some x→∃ b off,p=some ⟨b,off,none⟩∧b < n₀∧w.cell? ⟨b,off + j,none⟩=some (.string x)) :
    SeqStopsK F n Tryz.prog 163 #[.pointer (some ⟨Bs,0,none⟩)] (fun x:ByteArray=>#[.string x]) (Below n₀) (fun ys=>ys=zs) (fun pre=>pre <+: zs) zs.length w:=fun l J Jx W hW _ _ hY h0=>by
  refine valS_in F n h53 hro hn l Bs n₀ p c zs hz J Jx W hY ((hW.cell (p:=⟨Bs,0,none⟩) hBs).trans hcell) (fun j x hj=>?_) h0
  obtain ⟨b,off,hp,hb,c0⟩:=hc j x hj
  exact ⟨b,off,hp,hb,(hW.cell (p:=⟨b,off + j,none⟩) (by exact Nat.lt_of_lt_of_le hb hn₀)).trans c0⟩
theorem flat_oneS (x:ByteArray):(flatK encS 1 [x].toArray).toList=[.string x]:=by
  apply List.ext_getElem?
  intro j
  by_cases hj:j < 1
  · have:=flat_at (enc:=encS) (k:=1) (l:=[x]) (j:=0) (x:=x) rfl j hj
    rw [Nat.zero_mul,Nat.zero_add] at this
    rw [this]
    have hm:j=0:=by omega
    rw [hm];rfl
  · rw [List.getElem?_eq_none (by simp [flatK];omega),List.getElem?_eq_none (by simp;omega)]
theorem flat_snocS (l:List ByteArray) (x:ByteArray):(flatK encS 1 (l ++ [x]).toArray).toList=(flatK encS 1 l.toArray).toList ++ [.string x]:=by rw [flat_app encS 1 (by decide),flat_oneS]
theorem newsS_blk {w:World} {b:Nat} {x:ByteArray} (h:w.heap[b]? = some (.cells #[.string x] 9 (0,0))):∀ (j:Nat) (u:Value),[Value.string x][j]? = some u→w.cell? ((⟨b,0,none⟩:Addr).add j)=some u:=by
  intro j u hj
  rw [add_plain,Nat.zero_add]
  have hc:w.cell? ⟨b,j,none⟩=(#[.string x]:Array Value)[j]?:=(by unfold World.cell?;simp [h])
  rw [hc]
  simpa using hj

set_option maxRecDepth 100000 in
set_option maxHeartbeats 2000000 in
theorem appS_in (F:Fence) (n:Nat) (h60:F.fn 188) (h53:F.fn 163) (hro:F.round=none) (hn:3≤n) (Bs:Nat) (p:Option Addr) (c:Nat) (zs:List ByteArray) (hz:zs.length * 16≤140737488355328) (w:World) (hBs:Bs < w.heap.size)
    (hcell:w.cell? ⟨Bs,0,none⟩=some (.slice p zs.length c)) (hc:SlOf encS 1 w p c zs) :
    CallsIn F n Tryz.prog 188 #[.slice none 0 0,.func (.func 163) #[] #[.pointer (some ⟨Bs,0,none⟩)]] w fun e w'=>(∃ q cap,e=.returned (.slice q zs.length cap)∧OwnK encS 9 1 w.heap.size w' q cap zs)∧Below w.heap.size w w':=by
  have h1:1≤n:=by omega
  obtain ⟨i0,hi,hz0,hz1,hz2⟩:=info_parts Tryz.info9
  refine callsIn_of_wp_marks Tryz.func188 rfl h60 ?_ hro
  simp only [Tryz.ntmps188,List.size_toArray,List.length_cons,List.length_nil,Nat.reduceAdd,Nat.reduceSub,Array.replicate_succ,Array.replicate_zero,List.push_toArray,List.append_toArray,List.nil_append,List.cons_append]
  gi_wp2
  have bS:=Boxed.new w 24 (.slice none 0 0)
  have hB0:Below w.heap.size w (w.alloc (.cells #[.slice none 0 0] 24)):=(Below.refl _ w).alloc (Nat.le_refl _) _
  have hsz:(w.alloc (.cells #[.slice none 0 0] 24)).heap.size=w.heap.size + 1:=by simp
  have hcell':=(hB0.cell (p:=⟨Bs,0,none⟩) hBs).trans hcell
  have hc':∀ j x,zs[j]? = some x→∃ b off,p=some ⟨b,off,none⟩∧b < w.heap.size∧(w.alloc (.cells #[.slice none 0 0] 24)).cell? ⟨b,off + j,none⟩=some (.string x):=fun j x hj=>by
    obtain ⟨b,off,hp,hb,c0⟩:=strAt hc hj
    exact ⟨b,off,hp,hb,(hB0.cell (p:=⟨b,off + j,none⟩) hb).trans c0⟩
  obtain ⟨W0,hW0⟩:∃ W0,w.alloc (.cells #[.slice none 0 0] 24)=W0:=⟨_,rfl⟩
  rw [hW0] at bS hB0 hsz hcell' hc' ⊢
  clear hW0 hcell hc
  refine wpIn_rangeFunc_ownH hro h1 (gf:=163) (lb:=#[.pointer (some ⟨Bs,0,none⟩)]) rfl h53 (enters_of Tryz.func163 (by kernel_rfl) rfl)
    (valS_stops F (n - 1) h53 hro (by omega) Bs w.heap.size p c zs (by omega) W0 (by omega) (by omega) hcell' hc') belowK_t (belowK_b (by omega)) (Below.refl _ _) (fun _=>rfl)
    (fun pre W=>(∃ v,Boxed W w.heap.size 24 v∧W.ownsRow w.heap.size 9 1 v pre.length (flatK encS 1 pre.toArray).toList∧True)∧Below w.heap.size w W)
    (fun _ _ _=>False)
    (OwnFrom.and (Own.from (holdsRow_own w.heap.size w.heap.size 24 9 1 (fun pre:List ByteArray=>pre.length) (fun pre=>(flatK encS 1 pre.toArray).toList) (fun _ _=>True)) _) (ownFrom_below (Nat.le_refl _) (by omega)))
    (fun _ _ _ _ _ hs _ _=>hs)
    ⟨⟨_,bS,by simpa [flatK] using World.ownsRow_nil W0 w.heap.size 9 1,trivial⟩,hB0⟩
    (fun x a' _=>a'={ tmps:=#[.slice none 0 0,.func (.func 163) #[] #[.pointer (some ⟨Bs,0,none⟩)],.pointer (some ⟨w.heap.size,0,none⟩),undef,.slice none 0 0,.string x,.func (.func 163) #[] #[.pointer (some ⟨Bs,0,none⟩)],.string x,undef,undef,undef,undef,undef],defers:=[] })
    (fun _ _ _ _ _ _ hs _ _=>hs)
    ?assign ?body ?done ?stop
  case assign =>
    rintro l pre x W K hi hK
    gi_wp2
    exact hK _ _ (KeepsFrom.refl _ _) (Below.refl _ _) hi rfl
  case body =>
    rintro l pre x a' W hl ⟨r,hr⟩ ⟨⟨v,bv,hrow,_⟩,hB1⟩ rfl hlt
    have cB:=bv.cell
    obtain ⟨q,cap,rfl,_⟩:=OwnK.shape hrow
    have hsW:=hB1.size
    gi_wp2_with (gi_at_builtin;refine wpListIn_append_own _ rfl _ _ 24 rfl w.heap.size 9 i0 (.string ⟨#[]⟩) 1 16 Tryz.underlying24 hi hz0 hz1 hz2 rfl (by decide) _ _ _ rfl (hrow.alloc _) ⟨W.heap.size,0,none⟩ 1 1 [.string x] rfl rfl (newsS_blk (World.alloc_heap_new W _)) (by simp [Value.oneCell']) (by unfold maxLen;omega) (by omega) (by simp;omega) ?_;intro v' w1 hown' hgrow _;obtain ⟨g',cap',rfl⟩:=ownsRow_succ hown';obtain ⟨hv1,hv2,hr2,hk2,hb2⟩:=bv.appended (by decide) hrow hB1.size (Nat.le_refl _) hown' hgrow;have hc1:=hv1.cell;have hf1:=hv1.frozen)
    exact ⟨hk2.from _,hb2,⟨_,hv2,(by rw [flat_snocS,List.length_append];exact hr2),trivial⟩,hB1.trans hb2⟩
  case done =>
    rintro D ys W hD rfl ⟨⟨v,bv,hrow,_⟩,hB1⟩ hK
    have cB:=bv.cell
    obtain ⟨q,cap,rfl,_⟩:=OwnK.shape hrow
    gi_wp2
    refine ⟨by simp,.inl ⟨_,_,rfl,run_takeDeferred hK, ?_⟩⟩
    exact ⟨_,results_tmp rfl _ _ _,⟨q,cap,rfl,ownsRow_putObj hrow _ hK rfl⟩,hB1.trans (belowK_b (w:=w) (Nat.le_refl _) W D _ _ (by omega) hK rfl rfl)⟩
  case stop =>
    rintro D c pre W _ _ h _
    exact h.elim
theorem appS (Bs:Nat) (p:Option Addr) (c:Nat) (zs:List ByteArray) (hz:zs.length * 16≤140737488355328) (w:World) (hBs:Bs < w.heap.size) (hcell:w.cell? ⟨Bs,0,none⟩=some (.slice p zs.length c)) (hc:SlOf encS 1 w p c zs) :
    Calls Tryz.prog 188 #[.slice none 0 0,.func (.func 163) #[] #[.pointer (some ⟨Bs,0,none⟩)]] w fun e w'=>(∃ q cap,e=.returned (.slice q zs.length cap)∧OwnK encS 9 1 w.heap.size w' q cap zs)∧Below w.heap.size w w' :=
  (appS_in Fr 5 trivial trivial rfl (by decide) Bs p c zs hz w hBs hcell hc).calls fun _ _ h=>by cases h

theorem valuesS (q:Option Addr) (n c:Nat) (w:World) :
    Calls Tryz.prog 121 #[.slice q n c] w fun e w'=>e=.returned (.func (.func 163) #[] #[.pointer (some ⟨w.heap.size,0,none⟩)])∧w'=w.alloc (.cells #[.slice q n c] 24):=by
  go_enter Tryz.func121,Tryz.ntmps121
  go_wp2
  go_ret
  exact ⟨rfl,rfl⟩
theorem collectS (Bs:Nat) (p:Option Addr) (c:Nat) (zs:List ByteArray) (hz:zs.length * 16≤140737488355328) (w:World) (hBs:Bs < w.heap.size) (hcell:w.cell? ⟨Bs,0,none⟩=some (.slice p zs.length c)) (hc:SlOf encS 1 w p c zs) :
    Calls Tryz.prog 161 #[.func (.func 163) #[] #[.pointer (some ⟨Bs,0,none⟩)]] w fun e w'=>(∃ q cap,e=.returned (.slice q zs.length cap)∧OwnK encS 9 1 w.heap.size w' q cap zs)∧Below w.heap.size w w':=by
  have h:=appS Bs p c zs hz w hBs hcell hc
  clear hcell hc
  go_enter Tryz.func161,Tryz.ntmps161
  go_wp2_with (go_at_call 188;refine h.mono ?_;rintro e w1 ⟨⟨q,cap,rfl,ho⟩,hb⟩)
  go_ret
  exact ⟨⟨q,cap,rfl,ho⟩,hb⟩
end Go.Proofs.YtimklglliffpcaaGreat
namespace Go.Proofs.YtimklglliffpcaaGreat

theorem once_of {α:Type} [Inhabited α] [DecidableEq α] (le lt:α→α→Prop) (hr:∀ a,le a a) (ha:∀ a b,le a b→le b a→a=b) (hl:∀ a b,le a b→a ≠ b→lt a b) (zs:List α) (hs:zs.Pairwise le) :
    (∀ x,x ∈ Lib.compact zs ↔ x ∈ zs)∧(Lib.compact zs).Pairwise lt:=by
  have hget:∀ j (h:j < zs.length),zs.toArray[j]! = zs[j]:=fun j h=>by simp [h]
  have hle:∀ i j (hi:i < zs.length) (hj:j < zs.length),i≤j→le zs[i] zs[j]:=fun i j hi hj hij=>by
    by_cases e:i=j
    · subst e;exact hr _
    · exact List.pairwise_iff_getElem.1 hs i j hi hj (by omega)
  have key:∀ m,m≤zs.length→(∀ x,x ∈ Lib.compactUpTo zs.toArray m ↔ x ∈ zs.take m)∧(Lib.compactUpTo zs.toArray m).Pairwise lt:=by
    intro m
    induction m with
    | zero=>intro _;simp [Lib.compactUpTo]
    | succ m ih =>
      intro hm
      obtain ⟨i1,i2⟩:=ih (by omega)
      have hml:m < zs.length:=by omega
      have ht:zs.take (m + 1)=zs.take m ++ [zs[m]]:=List.take_succ_eq_append_getElem hml
      rw [Lib.compactUpTo_succ,hget m hml]
      cases hk:Lib.keeps zs.toArray m with
      | true =>
        rw [if_pos rfl]
        refine ⟨fun x=>by rw [ht,List.mem_append,List.mem_append,i1],List.pairwise_append.2 ⟨i2,List.pairwise_singleton _ _,fun x hx y hy=>?_⟩⟩
        obtain rfl:y=zs[m]:=by simpa using hy
        rw [i1] at hx
        obtain ⟨i,hi,rfl⟩:=List.mem_take_iff_getElem.1 hx
        have him:i < m:=by omega
        refine hl _ _ (hle i m (by omega) hml (by omega)) fun e=>?_
        unfold Lib.keeps at hk
        simp only [decide_eq_true_eq] at hk
        rcases hk with hk | hk
        · omega
        · rw [hget m hml,hget (m - 1) (by omega)] at hk
          apply hk
          have h1:=hle i (m - 1) (by omega) (by omega) (by omega)
          have h2:=hle (m - 1) m (by omega) hml (by omega)
          rw [e] at h1
          exact ha _ _ h1 h2
      | false =>
        rw [if_neg (by simp),List.append_nil]
        refine ⟨fun x=>?_,i2⟩
        rw [i1,ht,List.mem_append]
        refine ⟨Or.inl,fun h=>?_⟩
        rcases h with h | h
        · exact h
        · obtain rfl:x=zs[m]:=by simpa using h
          unfold Lib.keeps at hk
          simp only [decide_eq_false_iff_not,not_or,Classical.not_not] at hk
          rw [hget m hml,hget (m - 1) (by omega)] at hk
          rw [hk.2]
          exact List.mem_take_iff_getElem.2 ⟨m - 1,by omega,rfl⟩
  have:=key zs.length (Nat.le_refl _)
  rw [List.take_length] at this
  exact this
theorem once_len {α:Type} [Inhabited α] [DecidableEq α] (zs:List α):(Lib.compact zs).length≤zs.length:=by
  unfold Lib.compact Lib.compactUpTo
  rw [List.length_map]
  exact Nat.le_trans (List.length_filter_le _ _) (by simp)
/-- Numbers sorted, each once. -/
def onceI (l:List Int):List Int:=Lib.compact (l.mergeSort fun x y=>decide (x≤y))
theorem onceI_spec (l:List Int):(∀ x,x ∈ onceI l ↔ x ∈ l)∧(onceI l).Pairwise (· < ·)∧(onceI l).length≤l.length:=by
  have h:=List.pairwise_mergeSort (le:=fun x y:Int=>decide (x≤y)) (fun a b c h1 h2=>by simp only [decide_eq_true_eq] at *;omega) (fun a b=>by simp only [Bool.or_eq_true,decide_eq_true_eq];omega) l
  have hs:(l.mergeSort fun x y=>decide (x≤y)).Pairwise (·≤·):=h.imp fun {a b} hab=>by simpa using hab
  have hp:(l.mergeSort fun x y=>decide (x≤y)).Perm l:=List.mergeSort_perm _ _
  obtain ⟨h1,h2⟩:=once_of (·≤·) (· < ·) (fun a=>Int.le_refl a) (fun a b h1 h2=>by omega) (fun a b h1 h2=>by omega) _ hs
  refine ⟨fun x=>(h1 x).trans hp.mem_iff,h2, ?_⟩
  have:=once_len (l.mergeSort fun x y=>decide (x≤y))
  rw [hp.length_eq] at this
  exact this
/-- Words sorted, each once. -/
def onceS (l:List ByteArray):List ByteArray:=(Lib.compact ((l.map (·.data.toList)).mergeSort fun x y=>decide (x≤y))).map fun s=>⟨s.toArray⟩
def ltS (a b:ByteArray):Prop:=cmpS a.data.toList b.data.toList < 0
theorem onceS_spec (l:List ByteArray):(∀ x,x ∈ onceS l ↔ x ∈ l)∧(onceS l).Pairwise ltS∧(onceS l).length≤l.length:=by
  have hless:∀ a b:List UInt8,a≤b ↔ Op.bytesLess b a=false:=fun a b=>by
    rw [bytesLess_eq,decide_eq_false_iff_not];exact Iff.rfl
  have h:=List.pairwise_mergeSort (le:=fun x y:List UInt8=>decide (x≤y)) (fun a b c h1 h2=>by
      simp only [decide_eq_true_eq,hless] at *
      cases hc:Op.bytesLess c a with
      | false=>rfl
      | true =>
        cases hb:Op.bytesLess b c with
        | true=>rw [less_trans _ _ _ hb hc] at h1;cases h1
        | false =>
          by_cases e:b=c
          · subst e;rw [h1] at hc;cases hc
          · rw [less_total _ _ hb e] at h2;cases h2) (fun a b=>by
      simp only [Bool.or_eq_true,decide_eq_true_eq,hless]
      cases hc:Op.bytesLess b a with
      | false=>exact Or.inl rfl
      | true=>exact Or.inr (less_asymm _ _ hc)) (l.map (·.data.toList))
  have hs:((l.map (·.data.toList)).mergeSort fun x y=>decide (x≤y)).Pairwise (fun a b=>Op.bytesLess b a=false):=h.imp fun {a b} hab=>(hless a b).1 (by simpa using hab)
  have hp:((l.map (·.data.toList)).mergeSort fun x y=>decide (x≤y)).Perm (l.map (·.data.toList)):=List.mergeSort_perm _ _
  obtain ⟨h1,h2⟩:=once_of (fun a b:List UInt8=>Op.bytesLess b a=false) (fun a b=>Op.bytesLess a b=true) (fun a=>less_irrefl a) (fun a b h1 h2=>Classical.byContradiction fun e=>by rw [less_total _ _ h2 e] at h1;cases h1) (fun a b h1 h2=>less_total _ _ h1 (fun e=>h2 e.symm)) _ hs
  refine ⟨fun x=>?_, ?_, ?_⟩
  · unfold onceS
    rw [List.mem_map]
    constructor
    · rintro ⟨s,hs1,rfl⟩
      have:=(hp.mem_iff).1 ((h1 s).1 hs1)
      obtain ⟨y,hy,rfl⟩:=List.mem_map.1 this
      exact hy
    · intro hx
      exact ⟨x.data.toList,(h1 _).2 ((hp.mem_iff).2 (List.mem_map.2 ⟨x,hx,rfl⟩)),rfl⟩
  · unfold onceS
    rw [List.pairwise_map]
    exact h2.imp fun {a b} hab=>by unfold ltS;rw [cmpS_lt (by simpa using hab)];decide
  · unfold onceS
    rw [List.length_map]
    have:=once_len ((l.map (·.data.toList)).mergeSort fun x y=>decide (x≤y))
    rw [hp.length_eq,List.length_map] at this
    exact this
end Go.Proofs.YtimklglliffpcaaGreat
namespace Go.Proofs.YtimklglliffpcaaGreat
open Go.RowKit Go.Sort Go.Shelf

theorem own_geG {α:Type} [Inhabited α] {enc:α→List Value} {e:TypeId} {k B c:Nat} {w:World} {q:Option Addr} {l:List α} (h:OwnK enc e k B w q c l) {a:Addr} (he:q=some a):B≤a.block:=by
  rcases h.2 with ⟨h1,_⟩ | ⟨g,cap',cur,hv,hB,hblk,_⟩
  · injection h1 with h1;rw [he] at h1;cases h1
  · injection hv with h1
    rw [he] at h1;cases h1
    exact hB
theorem SlOf.set {α:Type} [Inhabited α] {enc:α→List Value} {k c:Nat} {w:World} {q:Option Addr} {l:List α} (h:SlOf enc k w q c l) {b:Nat} (hne:∀ a,q=some a→a.block ≠ b) (o:Nat) (v:Value):SlOf enc k (w.setCell ⟨b,o,Option.none⟩ v) q c l:=by
  refine ⟨h.1,h.2.1,h.2.2.1,fun h0=>?_⟩
  obtain ⟨b',off,hq,hb,hc⟩:=h.2.2.2 h0
  refine ⟨b',off,hq,by simpa using hb,fun j u hj=>?_⟩
  rw [World.cell?_setCell_other w ⟨b,o,Option.none⟩ ⟨b',off + j,Option.none⟩ v (by intro g;injection g with g1;exact hne _ hq g1.symm)]
  exact hc j u hj
theorem flatI (l:List Int):(flatK encI 1 l.toArray).toList=l.map (Value.int .i64):=by
  induction l with
  | nil=>simp [flatK]
  | cons x l ih =>
    rw [show x :: l=[x] ++ l from rfl,flat_app encI 1 (by decide),flat_oneI,ih];rfl
theorem slI_of_holds {w:World} {g cap:Nat} {l:List Int} {m:List Int} (hg:g < w.heap.size) (hc:l.length≤cap) (hm:cap≤maxLen) (h:Holds (Value.int .i64) w g 0 (l ++ m).toArray):SlOf encI 1 w (some ⟨g,0,none⟩) cap l:=by
  refine ⟨(fun h=>by cases h),hc,hm,fun _=>⟨g,0,rfl,hg,fun j u hj=>?_⟩⟩
  rw [flatI,List.getElem?_map] at hj
  obtain ⟨x,hx,rfl⟩:=Option.map_eq_some_iff.1 hj
  have hl:=(List.getElem?_eq_some_iff.1 hx).1
  have hx2:(l ++ m)[j]? = some x:=by rw [List.getElem?_append_left hl];exact hx
  rw [(h j (by simp;omega)).1,get_bang hx2]
theorem below_put {α:Type} [Inhabited α] {enc:α→Value} (w:World) (g n:Nat) (d:Array α) (os:Array Obj) (hg:g < w.heap.size):Below g w (grow (putRow enc (Sort.ahead w n) g 0 d) os):=by
  refine ⟨rfl,rfl,rfl,by simp [grow,putRow,mapBlock,Sort.ahead],fun j hj=>?_⟩
  simp only [grow,putRow,mapBlock,Sort.ahead]
  rw [Array.getElem?_append_left (by simp;omega)]
  simp [Array.getElem?_modify,show g ≠ j by omega]
theorem below_put0 {α:Type} [Inhabited α] {enc:α→Value} (w:World) (g n:Nat) (d:Array α):Below g w (putRow enc (Sort.ahead w n) g 0 d):=by
  refine ⟨rfl,rfl,rfl,by simp [putRow,mapBlock,Sort.ahead],fun j hj=>?_⟩
  simp only [putRow,mapBlock,Sort.ahead]
  simp [Array.getElem?_modify,show g ≠ j by omega]
theorem flatS (l:List ByteArray):(flatK encS 1 l.toArray).toList=(l.map (·.data.toList)).map encStr:=by
  induction l with
  | nil=>simp [flatK]
  | cons x l ih =>
    rw [show x :: l=[x] ++ l from rfl,flat_app encS 1 (by decide),flat_oneS,ih];rfl
theorem map_once (l:List ByteArray):(onceS l).map (·.data.toList)=Lib.compact ((l.map (·.data.toList)).mergeSort fun x y=>decide (x≤y)):=by
  unfold onceS
  rw [List.map_map]
  exact List.map_id _
theorem slS_of_holds {w:World} {g cap:Nat} {l:List ByteArray} {m:List ByteArray} (hg:g < w.heap.size) (hc:l.length≤cap) (hm:cap≤maxLen) (h:Holds encStr w g 0 ((l ++ m).map (·.data.toList)).toArray):SlOf encS 1 w (some ⟨g,0,none⟩) cap l:=by
  refine ⟨(fun h=>by cases h),hc,hm,fun _=>⟨g,0,rfl,hg,fun j u hj=>?_⟩⟩
  rw [flatS,List.getElem?_map] at hj
  obtain ⟨x,hx,rfl⟩:=Option.map_eq_some_iff.1 hj
  have hl:j < l.length:=by have:=(List.getElem?_eq_some_iff.1 hx).1;simpa using this
  have hx2:((l ++ m).map (·.data.toList))[j]? = some x:=by rw [List.map_append,List.getElem?_append_left (by simpa using hl)];exact hx
  rw [(h j (by simp;omega)).1,get_bang hx2]
theorem sortI_h (B:Nat) (q:Option Addr) (cap:Nat) (l:List Int) (w:World) (hl:l.length < 4611686018427387904) (h:OwnK encI 3 1 B w q cap l) :
    Calls Tryz.prog 159 #[.slice q l.length cap] w fun e w'=>e=.returned (.tuple #[])∧Below B w w'∧((l=[]∧SlOf encI 1 w' q cap l∧∀ a,q=some a→B≤a.block) ∨ ∃ g,q=some ⟨g,0,none⟩∧B≤g∧g < w'.heap.size∧l.length≤cap∧cap≤maxLen∧Holds (Value.int .i64) w' g 0 (l.mergeSort fun x y=>decide (x≤y)).toArray):=by
  by_cases h0:l.length=0
  · obtain rfl:l=[]:=List.length_eq_zero_iff.1 h0
    have hcon:=Any.slices_Sort_int_none Tryz.sortI q cap w
    change Calls Tryz.prog 159 _ _ _ at hcon
    exact hcon.mono fun e w' ⟨he,hw⟩=>⟨he,by rw [hw];exact Below.refl _ _,Or.inl ⟨rfl,by rw [hw];exact h.ls,fun a e=>own_geG h e⟩⟩
  · have hrow:w.ownsRow B 3 1 (.slice q l.length cap) l.length (l.map (Value.int .i64)):=by have:=h;unfold OwnK at this;rw [flatI] at this;exact this
    have hne:(Value.slice q l.length cap) ≠ .slice none 0 0:=fun e=>by injection e with _ e2;omega
    obtain ⟨g,cap',hv,hB,hg,hnc,hm,_,hH⟩:=Lib.holds_of_ownsRow hrow hne
    injection hv with h1 h2 h3
    subst h1 h3
    have hcon:=Any.slices_Sort_int Tryz.sortI g 0 cap l w hH hg hl
    change Calls Tryz.prog 159 _ _ _ at hcon
    have hp:(l.mergeSort fun x y=>decide (x≤y)).Perm l:=List.mergeSort_perm _ _
    skip
    refine hcon.mono fun e w' ⟨he,n,os,hw⟩=>⟨he, ?_,Or.inr ⟨g,rfl,hB, ?_,hnc,hm, ?_⟩⟩
    · rw [hw];exact (below_put w g n _ os hg).mono hB
    · rw [hw];simp [grow];omega
    · rw [hw]
      exact holds_grow _ _ _ _ _ _ (by simpa using hg) (holds_putRow _ _ _ _ l.toArray _ (holds_ahead _ _ _ _ _ _ hH) (by simp))
set_option maxRecDepth 100000 in
theorem sortedI_h (Bs:Nat) (p:Option Addr) (c:Nat) (l:List Int) (hz:l.length * 8≤140737488355328) (w:World) (hBs:Bs < w.heap.size) (hcell:w.cell? ⟨Bs,0,none⟩=some (.slice p l.length c)) (hc:SlOf encI 1 w p c l) :
    Calls Tryz.prog 117 #[.func (.func 160) #[] #[.pointer (some ⟨Bs,0,none⟩)]] w fun e w'=>(∃ q cap,e=.returned (.slice q l.length cap)∧((l=[]∧SlOf encI 1 w' q cap l∧∀ a,q=some a→w.heap.size≤a.block) ∨ ∃ g,q=some ⟨g,0,none⟩∧w.heap.size≤g∧g < w'.heap.size∧l.length≤cap∧cap≤maxLen∧Holds (Value.int .i64) w' g 0 (l.mergeSort fun x y=>decide (x≤y)).toArray))∧Below w.heap.size w w':=by
  have h:=collectI Bs p c l hz w hBs hcell hc
  clear hcell hc
  go_enter Tryz.func117,Tryz.ntmps117
  go_wp2_with (first
    | (go_at_call 158;refine h.mono ?_;rintro e w1 ⟨⟨q,cap,rfl,ho⟩,hb⟩;have HO:=hide ho;have HB:=hide hb;clear ho hb)
    | (go_at_call 159;refine (sortI_h w.heap.size q cap l _ (by omega) (uh HO)).mono ?_;rintro e w2 ⟨rfl,hb2,hh2⟩;have HB2:=hide hb2;have HH2:=hide hh2;clear hb2 hh2))
  go_ret
  exact ⟨⟨q,cap,rfl,uh HH2⟩,(uh HB).trans (uh HB2)⟩
theorem sortS_h (B:Nat) (q:Option Addr) (cap:Nat) (l:List ByteArray) (w:World) (hl:l.length < 4611686018427387904) (h:OwnK encS 9 1 B w q cap l) :
    Calls Tryz.prog 162 #[.slice q l.length cap] w fun e w'=>e=.returned (.tuple #[])∧Below B w w'∧((l=[]∧SlOf encS 1 w' q cap l∧∀ a,q=some a→B≤a.block) ∨ ∃ g,q=some ⟨g,0,none⟩∧B≤g∧g < w'.heap.size∧l.length≤cap∧cap≤maxLen∧Holds encStr w' g 0 ((l.map (·.data.toList)).mergeSort fun x y=>decide (x≤y)).toArray):=by
  by_cases h0:l.length=0
  · obtain rfl:l=[]:=List.length_eq_zero_iff.1 h0
    have hcon:=Any.slices_Sort_string_none Tryz.sortS q cap w
    change Calls Tryz.prog 162 _ _ _ at hcon
    exact hcon.mono fun e w' ⟨he,hw⟩=>⟨he,by rw [hw];exact Below.refl _ _,Or.inl ⟨rfl,by rw [hw];exact h.ls,fun a e=>own_geG h e⟩⟩
  · have hrow:w.ownsRow B 9 1 (.slice q l.length cap) (l.map (·.data.toList)).length ((l.map (·.data.toList)).map encStr):=by have:=h;unfold OwnK at this;rw [flatS] at this;rw [List.length_map];exact this
    have hlen:(l.map (·.data.toList)).length=l.length:=by simp
    rw [← hlen] at hl
    have hne:(Value.slice q l.length cap) ≠ .slice none 0 0:=fun e=>by injection e with _ e2;omega
    obtain ⟨g,cap',hv,hB,hg,hnc,hm,_,hH⟩:=Lib.holds_of_ownsRow hrow hne
    injection hv with h1 h2 h3
    subst h1 h3
    have hcon:=Any.slices_Sort_string Tryz.sortS g 0 cap (l.map (·.data.toList)) w hH hg hl
    change Calls Tryz.prog 162 _ _ _ at hcon
    have hp:((l.map (·.data.toList)).mergeSort fun x y=>decide (x≤y)).Perm (l.map (·.data.toList)):=List.mergeSort_perm _ _
    rw [hlen] at hcon hnc
    refine hcon.mono fun e w' ⟨he,n,os,hw⟩=>⟨he, ?_,Or.inr ⟨g,rfl,hB, ?_,hnc,hm, ?_⟩⟩
    · rw [hw];exact (below_put w g n _ os hg).mono hB
    · rw [hw];simp [grow];omega
    · rw [hw]
      exact holds_grow _ _ _ _ _ _ (by simpa using hg) (holds_putRow _ _ _ _ (l.map (·.data.toList)).toArray _ (holds_ahead _ _ _ _ _ _ hH) (by simp))
set_option maxRecDepth 100000 in
theorem sortedS_h (Bs:Nat) (p:Option Addr) (c:Nat) (l:List ByteArray) (hz:l.length * 16≤140737488355328) (w:World) (hBs:Bs < w.heap.size) (hcell:w.cell? ⟨Bs,0,none⟩=some (.slice p l.length c)) (hc:SlOf encS 1 w p c l) :
    Calls Tryz.prog 120 #[.func (.func 163) #[] #[.pointer (some ⟨Bs,0,none⟩)]] w fun e w'=>(∃ q cap,e=.returned (.slice q l.length cap)∧((l=[]∧SlOf encS 1 w' q cap l∧∀ a,q=some a→w.heap.size≤a.block) ∨ ∃ g,q=some ⟨g,0,none⟩∧w.heap.size≤g∧g < w'.heap.size∧l.length≤cap∧cap≤maxLen∧Holds encStr w' g 0 ((l.map (·.data.toList)).mergeSort fun x y=>decide (x≤y)).toArray))∧Below w.heap.size w w':=by
  have h:=collectS Bs p c l hz w hBs hcell hc
  clear hcell hc
  go_enter Tryz.func120,Tryz.ntmps120
  go_wp2_with (first
    | (go_at_call 161;refine h.mono ?_;rintro e w1 ⟨⟨q,cap,rfl,ho⟩,hb⟩;have HO:=hide ho;have HB:=hide hb;clear ho hb)
    | (go_at_call 162;refine (sortS_h w.heap.size q cap l _ (by omega) (uh HO)).mono ?_;rintro e w2 ⟨rfl,hb2,hh2⟩;have HB2:=hide hb2;have HH2:=hide hh2;clear hb2 hh2))
  go_ret
  exact ⟨⟨q,cap,rfl,uh HH2⟩,(uh HB).trans (uh HB2)⟩
end Go.Proofs.YtimklglliffpcaaGreat
namespace Go.Proofs.YtimklglliffpcaaGreat
open Go.RowKit Go.Sort

theorem OwnK.from {α:Type} [Inhabited α] {enc:α→List Value} {k B:Nat} {e:TypeId} {w:World} {q:Option Addr} {cap:Nat} {l:List α} (h:OwnK enc e k B w q cap l):∀ a,q=some a→B≤a.block:=by
  intro a ha
  rcases h.2 with ⟨h0,_⟩ | ⟨g,cp,cur,hv,hB,_⟩
  · injection h0 with h1;rw [ha] at h1;cases h1
  · injection hv with h1;rw [ha] at h1;cases h1;exact hB
/-- The tree of v lies in memory, all of it in blocks from B on. -/
inductive NdFrom (w:World) (B:Nat):Nv→Nd→Prop
  | mk {kind:Int} {attr:ByteArray} {ints:List Int} {words:List ByteArray} {lo hi op:Int} {kids:List Nd} {qi:Option Addr} {ci:Nat} {qw:Option Addr} {cw:Nat} {qk:Option Addr} {ck:Nat} {vs:List Nv} :
      SlOf encI 1 w qi ci ints→SlOf encS 1 w qw cw words→SlOf encV 8 w qk ck vs→(∀ a,qi=some a→B≤a.block)→(∀ a,qw=some a→B≤a.block)→(∀ a,qk=some a→B≤a.block)→vs.length=kids.length→(∀ (j:Nat) (v:Nv) (x:Nd),vs[j]? = some v→kids[j]? = some x→NdFrom w B v x) →
      NdFrom w B ⟨kind,attr,qi,ints.length,ci,qw,words.length,cw,lo,hi,op,qk,kids.length,ck⟩ (.mk kind attr ints words lo hi op kids)
theorem NdFrom.toIn {w:World} {B:Nat} {v:Nv} {t:Nd} (h:NdFrom w B v t):NdIn w v t:=by
  induction h with
  | mk hi hw hk _ _ _ hl hr ih=>exact .mk hi hw hk hl fun j v x hj hx=>ih j v x hj hx
theorem NdFrom.mono {w:World} {B B':Nat} {v:Nv} {t:Nd} (h:NdFrom w B v t) (hB:B'≤B):NdFrom w B' v t:=by
  induction h with
  | mk hi hw hk h1 h2 h3 hl hr ih=>exact .mk hi hw hk (fun a e=>Nat.le_trans hB (h1 a e)) (fun a e=>Nat.le_trans hB (h2 a e)) (fun a e=>Nat.le_trans hB (h3 a e)) hl fun j v x hj hx=>ih j v x hj hx
/-- A later world that has the same cells from B on. -/
def SameUp (B:Nat) (w w':World):Prop:=w.heap.size≤w'.heap.size∧∀ b o,B≤b→b < w.heap.size→w'.cell? ⟨b,o,none⟩=w.cell? ⟨b,o,none⟩
theorem SlOf.up {α:Type} [Inhabited α] {enc:α→List Value} {k B:Nat} {w w':World} {q:Option Addr} {c:Nat} {l:List α} (h:SlOf enc k w q c l) (hq:∀ a,q=some a→B≤a.block) (hu:SameUp B w w'):SlOf enc k w' q c l:=by
  refine ⟨h.1,h.2.1,h.2.2.1,fun h0=>?_⟩
  obtain ⟨b,off,rfl,hB,hA⟩:=h.2.2.2 h0
  exact ⟨b,off,rfl,Nat.lt_of_lt_of_le hB hu.1,fun j u hj=>(hu.2 b (off + j) (hq _ rfl) hB).trans (hA j u hj)⟩
theorem NdFrom.up {w w':World} {B:Nat} {v:Nv} {t:Nd} (h:NdFrom w B v t) (hu:SameUp B w w'):NdFrom w' B v t:=by
  induction h with
  | mk hi hw hk h1 h2 h3 hl hr ih=>exact .mk (hi.up h1 hu) (hw.up h2 hu) (hk.up h3 hu) h1 h2 h3 hl fun j v x hj hx=>ih j v x hj hx
theorem SameUp.of {B:Nat} {w w':World} (h:Below w.heap.size w w'):SameUp B w w':=⟨h.size,fun b o _ hb=>h.cell (p:=⟨b,o,none⟩) hb⟩
theorem SameUp.trans {B:Nat} {x y z:World} (h:SameUp B x y) (k:SameUp B y z):SameUp B x z:=⟨Nat.le_trans h.1 k.1,fun b o h1 h2=>(k.2 b o h1 (Nat.lt_of_lt_of_le h2 h.1)).trans (h.2 b o h1 h2)⟩
theorem SameUp.grown {B g:Nat} {w w':World} (h:w.grownBy w' (some g)) (hg:g < B):SameUp B w w':=⟨h.size,fun b o h1 h2=>World.cell?_of_block (w:=w) (a:=⟨b,o,none⟩) (h.block b h2 (fun e=>by cases e;omega))⟩
theorem NdFrom.keep {w w':World} {B:Nat} {v:Nv} {t:Nd} (h:NdFrom w B v t) (hb:Below w.heap.size w w'):NdFrom w' B v t:=h.up (SameUp.of hb)
theorem NdFrom.make {w:World} {B:Nat} {kind:Int} {attr:ByteArray} {ints:List Int} {words:List ByteArray} {lo hi op:Int} {kids:List Nd} {qi:Option Addr} {ci:Nat} {qw:Option Addr} {cw:Nat} {qk:Option Addr} {ck:Nat} {vs:List Nv}
    (h1:SlOf encI 1 w qi ci ints) (f1:∀ a,qi=some a→B≤a.block) (h2:SlOf encS 1 w qw cw words) (f2:∀ a,qw=some a→B≤a.block) (h3:SlOf encV 8 w qk ck vs) (f3:∀ a,qk=some a→B≤a.block) (hl:vs.length=kids.length) (hr:∀ (j:Nat) (v:Nv) (x:Nd),vs[j]? = some v→kids[j]? = some x→NdFrom w B v x) :
    NdFrom w B ⟨kind,attr,qi,ints.length,ci,qw,words.length,cw,lo,hi,op,qk,kids.length,ck⟩ (.mk kind attr ints words lo hi op kids):=.mk h1 h2 h3 f1 f2 f3 hl hr
set_option maxRecDepth 100000 in
set_option maxHeartbeats 1000000 in
theorem cloneI (q:Option Addr) (c:Nat) (l:List Int) (w:World) (h:SlOf encI 1 w q c l) (hl:l.length≤1000000000000) :
    Calls Tryz.prog 97 #[.slice q l.length c] w fun e w'=>∃ q' c',e=.returned (.slice q' l.length c')∧OwnK encI 3 1 w.heap.size w' q' c' l∧Below w.heap.size w w':=by
  cases q with
  | none =>
    obtain ⟨h0,rfl⟩:=h.1 rfl
    obtain rfl:l=[]:=List.length_eq_zero_iff.1 h0
    have heq:=fun (w:World)=>Lib.run_eql_slice_nil (P:=Tryz.prog) w 23 3 none 0 0 0 0 Tryz.underlying23
    clear h h0
    go_enter Tryz.func97,Tryz.ntmps97
    go_wp2
    go_ret
    exact ⟨none,0,rfl,OwnK.nil _ _,Below.refl _ _⟩
  | some a =>
    have HS:=hide h
    have heq:=fun (w:World)=>Lib.run_eql_slice_nil (P:=Tryz.prog) w 23 3 (some a) l.length c 0 0 Tryz.underlying23
    clear h
    go_enter Tryz.func97,Tryz.ntmps97
    go_wp2_with (at_builtin;refine wpList_app rowI rfl _ _ rfl w.heap.size (some ⟨w.heap.size,0,none⟩) 0 [] (some a) c l 0 l.length l.length rfl rfl (by omega) rfl rfl (OwnK.made _ _ (Nat.le_refl _)) ((uh HS).below ((Below.refl _ _).alloc (Nat.le_refl _) _)).src (by unfold maxLen;omega) (by omega) (by simp) ?_;intro q2 c2 w2 hown2 hb2 _ hg2)
    go_ret
    exact ⟨q2,c2,rfl,by simpa using hown2,((Below.refl _ _).alloc (Nat.le_refl _) _).trans hb2⟩
set_option maxRecDepth 100000 in
set_option maxHeartbeats 1000000 in
theorem cloneS (q:Option Addr) (c:Nat) (l:List ByteArray) (w:World) (h:SlOf encS 1 w q c l) (hl:l.length≤1000000000000) :
    Calls Tryz.prog 176 #[.slice q l.length c] w fun e w'=>∃ q' c',e=.returned (.slice q' l.length c')∧OwnK encS 9 1 w.heap.size w' q' c' l∧Below w.heap.size w w':=by
  cases q with
  | none =>
    obtain ⟨h0,rfl⟩:=h.1 rfl
    obtain rfl:l=[]:=List.length_eq_zero_iff.1 h0
    have heq:=fun (w:World)=>Lib.run_eql_slice_nil (P:=Tryz.prog) w 24 9 none 0 0 0 0 Tryz.underlying24
    clear h h0
    go_enter Tryz.func176,Tryz.ntmps176
    go_wp2
    go_ret
    exact ⟨none,0,rfl,OwnK.nil _ _,Below.refl _ _⟩
  | some a =>
    have HS:=hide h
    have heq:=fun (w:World)=>Lib.run_eql_slice_nil (P:=Tryz.prog) w 24 9 (some a) l.length c 0 0 Tryz.underlying24
    clear h
    go_enter Tryz.func176,Tryz.ntmps176
    go_wp2_with (at_builtin;refine wpList_app rowS rfl _ _ rfl w.heap.size (some ⟨w.heap.size,0,none⟩) 0 [] (some a) c l 0 l.length l.length rfl rfl (by omega) rfl rfl (OwnK.made _ _ (Nat.le_refl _)) ((uh HS).below ((Below.refl _ _).alloc (Nat.le_refl _) _)).src (by unfold maxLen;omega) (by omega) (by simp) ?_;intro q2 c2 w2 hown2 hb2 _ hg2)
    go_ret
    exact ⟨q2,c2,rfl,by simpa using hown2,((Below.refl _ _).alloc (Nat.le_refl _) _).trans hb2⟩
set_option maxRecDepth 100000 in
set_option maxHeartbeats 1000000 in
theorem cloneV (q:Option Addr) (c:Nat) (l:List Nv) (w:World) (h:SlOf encV 8 w q c l) (hl:l.length≤1000000000000) :
    Calls Tryz.prog 181 #[.slice q l.length c] w fun e w'=>∃ q' c',e=.returned (.slice q' l.length c')∧OwnK encV 56 8 w.heap.size w' q' c' l∧Below w.heap.size w w':=by
  cases q with
  | none =>
    obtain ⟨h0,rfl⟩:=h.1 rfl
    obtain rfl:l=[]:=List.length_eq_zero_iff.1 h0
    have heq:=fun (w:World)=>Lib.run_eql_slice_nil (P:=Tryz.prog) w 54 56 none 0 0 0 0 Tryz.underlying54
    clear h h0
    go_enter Tryz.func181,Tryz.ntmps181
    go_wp2
    go_ret
    exact ⟨none,0,rfl,OwnK.nil _ _,Below.refl _ _⟩
  | some a =>
    have HS:=hide h
    have heq:=fun (w:World)=>Lib.run_eql_slice_nil (P:=Tryz.prog) w 54 56 (some a) l.length c 0 0 Tryz.underlying54
    clear h
    go_enter Tryz.func181,Tryz.ntmps181
    go_wp2_with (at_builtin;refine wpList_app rowV rfl _ _ rfl w.heap.size (some ⟨w.heap.size,0,none⟩) 0 [] (some a) c l 0 l.length l.length rfl rfl (by omega) rfl rfl (OwnK.made _ _ (Nat.le_refl _)) ((uh HS).below ((Below.refl _ _).alloc (Nat.le_refl _) _)).src (by unfold maxLen;omega) (by omega) (by simp) ?_;intro q2 c2 w2 hown2 hb2 _ hg2)
    go_ret
    exact ⟨q2,c2,rfl,by simpa using hown2,((Below.refl _ _).alloc (Nat.le_refl _) _).trans hb2⟩
end Go.Proofs.YtimklglliffpcaaGreat
namespace Go.Proofs.YtimklglliffpcaaGreat
open Go.RowKit

theorem size_pos (t:Nd):1≤sizeN t:=by cases t;simp only [sizeN];omega
theorem len_size (l:List Nd):l.length≤sizeL l:=by
  induction l with
  | nil=>simp
  | cons x l ih=>have:=size_pos x;simp only [sizeL,List.length_cons];omega
end Go.Proofs.YtimklglliffpcaaGreat
namespace Go.Proofs.YtimklglliffpcaaGreat
open Go.RowKit

theorem pre_snoc {α:Type} {l m:List α} {k:Nat} {x:α} (h:l.take k=m.take k) (hx:l[k]? = some x) (hy:m[k]? = some x):l.take (k + 1)=m.take (k + 1):=by
  rw [take_snoc_of hx,take_snoc_of hy,h]
theorem pre_ne {α:Type} {l m:List α} {k:Nat} {x y:α} (hx:l[k]? = some x) (hy:m[k]? = some y) (h:x ≠ y):l ≠ m:=fun e=>by subst e;rw [hx] at hy;cases hy;exact h rfl
theorem NdsOf.cells {w wr:World} {q:Option Addr} {c:Nat} {l:List Nd} {j:Nat} {x:Nd} (h:NdsOf w q c l) (hj:l[j]? = some x) (hbel:Below w.heap.size w wr) :
    ∃ b off v,q=some ⟨b,off,none⟩∧b < wr.heap.size∧NdIn wr v x∧(wr.cell? ⟨b,off + j * 8,none⟩=some (.int .i64 v.kind)∧wr.cell? ⟨b,off + j * 8 + 1,none⟩=some (.string v.attr)∧wr.cell? ⟨b,off + j * 8 + 2,none⟩=some (.slice v.qi v.ni v.ci)∧wr.cell? ⟨b,off + j * 8 + 3,none⟩=some (.slice v.qw v.nw v.cw)∧wr.cell? ⟨b,off + j * 8 + 4,none⟩=some (.int .i64 v.lo)∧wr.cell? ⟨b,off + j * 8 + 5,none⟩=some (.int .i64 v.hi)∧wr.cell? ⟨b,off + j * 8 + 6,none⟩=some (.int .i64 v.op)∧wr.cell? ⟨b,off + j * 8 + 7,none⟩=some (.slice v.qk v.nk v.ck)):=by
  obtain ⟨b,off,v,hq,hb,hin,c⟩:=(h.below hbel).at hj
  exact ⟨b,off,v,hq,hb,hin,c⟩
end Go.Proofs.YtimklglliffpcaaGreat
namespace Go.Proofs.YtimklglliffpcaaGreat
open Go.RowKit Go.Sort

theorem flat_at8 (l:List Nv) (j:Nat) (x:Nv) (h:l[j]? = some x) (c:Nat) (hc:c < 8):(flatK encV 8 l.toArray).toList[j * 8 + c]? = some ((encV x)[c]!):=flat_at h c hc
theorem flat_len (l:List Nv):(flatK encV 8 l.toArray).toList.length=l.length * 8:=by simp
theorem flat_set8 (l:List Nv) (k:Nat) (v:Nv) (hk:k < l.length):(flatK encV 8 (l.set k v).toArray).toList=(((((((((flatK encV 8 l.toArray).toList).set (k * 8) (.int .i64 v.kind)).set (k * 8 + 1) (.string v.attr)).set (k * 8 + 2) (.slice v.qi v.ni v.ci)).set (k * 8 + 3) (.slice v.qw v.nw v.cw)).set (k * 8 + 4) (.int .i64 v.lo)).set (k * 8 + 5) (.int .i64 v.hi)).set (k * 8 + 6) (.int .i64 v.op)).set (k * 8 + 7) (.slice v.qk v.nk v.ck):=by
  apply List.ext_getElem?
  intro i
  by_cases hi:i < l.length * 8
  · have hq:i / 8 < l.length:=by omega
    have hi2:i=i / 8 * 8 + i % 8:=by omega
    by_cases h:i / 8=k
    · have h1:(l.set k v)[k]? = some v:=by rw [List.getElem?_set_self hk]
      have h2:=flat_at8 (l.set k v) k v h1 (i % 8) (by omega)
      have hlen:=flat_len l
      rw [h] at hi2
      have hm:i % 8=0 ∨ i % 8=1 ∨ i % 8=2 ∨ i % 8=3 ∨ i % 8=4 ∨ i % 8=5 ∨ i % 8=6 ∨ i % 8=7:=by omega
      rcases hm with e | e | e | e | e | e | e | e
      all_goals
        rw [e] at hi2 h2
        rw [hi2,h2]
        simp [List.getElem?_set,encV]
        omega
    · obtain ⟨x,hx,_⟩:=get_at hq
      have h1:(l.set k v)[i / 8]? = some x:=by rw [List.getElem?_set_ne (by omega)];exact hx
      have h2:=flat_at8 (l.set k v) (i / 8) x h1 (i % 8) (by omega)
      have h3:=flat_at8 l (i / 8) x hx (i % 8) (by omega)
      rw [← hi2] at h2 h3
      rw [h2]
      rw [List.getElem?_set_ne (by omega),List.getElem?_set_ne (by omega),List.getElem?_set_ne (by omega),List.getElem?_set_ne (by omega),List.getElem?_set_ne (by omega),List.getElem?_set_ne (by omega),List.getElem?_set_ne (by omega),List.getElem?_set_ne (by omega),h3]
  · rw [List.getElem?_eq_none (by rw [flat_len];simp;omega),List.getElem?_eq_none (by simp;omega)]
/-- A node stored into a row of the call's own. -/
theorem own_set8 {B g c:Nat} {w:World} {l:List Nv} {k:Nat} (h:OwnK encV 56 8 B w (some ⟨g,0,none⟩) c l) (hk:k < l.length) (v:Nv) :
    OwnK encV 56 8 B (((((((((w).setCell ⟨g,k * 8,none⟩ (.int .i64 v.kind)).setCell ⟨g,k * 8 + 1,none⟩ (.string v.attr)).setCell ⟨g,k * 8 + 2,none⟩ (.slice v.qi v.ni v.ci)).setCell ⟨g,k * 8 + 3,none⟩ (.slice v.qw v.nw v.cw)).setCell ⟨g,k * 8 + 4,none⟩ (.int .i64 v.lo)).setCell ⟨g,k * 8 + 5,none⟩ (.int .i64 v.hi)).setCell ⟨g,k * 8 + 6,none⟩ (.int .i64 v.op)).setCell ⟨g,k * 8 + 7,none⟩ (.slice v.qk v.nk v.ck)) (some ⟨g,0,none⟩) c (l.set k v)∧SameUp (g + 1) w (((((((((w).setCell ⟨g,k * 8,none⟩ (.int .i64 v.kind)).setCell ⟨g,k * 8 + 1,none⟩ (.string v.attr)).setCell ⟨g,k * 8 + 2,none⟩ (.slice v.qi v.ni v.ci)).setCell ⟨g,k * 8 + 3,none⟩ (.slice v.qw v.nw v.cw)).setCell ⟨g,k * 8 + 4,none⟩ (.int .i64 v.lo)).setCell ⟨g,k * 8 + 5,none⟩ (.int .i64 v.hi)).setCell ⟨g,k * 8 + 6,none⟩ (.int .i64 v.op)).setCell ⟨g,k * 8 + 7,none⟩ (.slice v.qk v.nk v.ck)):=by
  unfold OwnK at h
  have h0:=World.ownsRow.stored h (k * 8) (.int .i64 v.kind)
  have h1:=World.ownsRow.stored h0.1 (k * 8 + 1) (.string v.attr)
  have h2:=World.ownsRow.stored h1.1 (k * 8 + 2) (.slice v.qi v.ni v.ci)
  have h3:=World.ownsRow.stored h2.1 (k * 8 + 3) (.slice v.qw v.nw v.cw)
  have h4:=World.ownsRow.stored h3.1 (k * 8 + 4) (.int .i64 v.lo)
  have h5:=World.ownsRow.stored h4.1 (k * 8 + 5) (.int .i64 v.hi)
  have h6:=World.ownsRow.stored h5.1 (k * 8 + 6) (.int .i64 v.op)
  have h7:=World.ownsRow.stored h6.1 (k * 8 + 7) (.slice v.qk v.nk v.ck)
  refine ⟨?_, ?_⟩
  · unfold OwnK
    rw [flat_set8 l k v hk,List.length_set]
    exact h7.1
  · exact (((((((SameUp.grown h0.2 (by omega)).trans (SameUp.grown h1.2 (by omega))).trans (SameUp.grown h2.2 (by omega))).trans (SameUp.grown h3.2 (by omega))).trans (SameUp.grown h4.2 (by omega))).trans (SameUp.grown h5.2 (by omega))).trans (SameUp.grown h6.2 (by omega))).trans (SameUp.grown h7.2 (by omega))
theorem below_set8 {B g:Nat} {a w:World} (h:Below B a w) (hg:B≤g) (k:Nat) (v:Nv):Below B a (((((((((w).setCell ⟨g,k * 8,none⟩ (.int .i64 v.kind)).setCell ⟨g,k * 8 + 1,none⟩ (.string v.attr)).setCell ⟨g,k * 8 + 2,none⟩ (.slice v.qi v.ni v.ci)).setCell ⟨g,k * 8 + 3,none⟩ (.slice v.qw v.nw v.cw)).setCell ⟨g,k * 8 + 4,none⟩ (.int .i64 v.lo)).setCell ⟨g,k * 8 + 5,none⟩ (.int .i64 v.hi)).setCell ⟨g,k * 8 + 6,none⟩ (.int .i64 v.op)).setCell ⟨g,k * 8 + 7,none⟩ (.slice v.qk v.nk v.ck)):=((((((((h).setCell hg _).setCell hg _).setCell hg _).setCell hg _).setCell hg _).setCell hg _).setCell hg _).setCell hg _
/-- What clone has to do at a tree. -/
def CloneP (x:Nd):Prop:=∀ (v:Nv) (w:World),NdIn w v x→wtN x≤1000000000→Calls Tryz.prog 148 #[v.val] w fun e w'=>∃ v',e=.returned v'.val∧NdFrom w' w.heap.size v' x∧Below w.heap.size w w'
theorem OwnK.cases {B c:Nat} {w:World} {q:Option Addr} {l:List Nv} (h:OwnK encV 56 8 B w q c l):(q=none∧l=[]∧c=0) ∨ ∃ g,q=some ⟨g,0,none⟩∧B≤g∧g < w.heap.size∧∀ o,w.frozen? ⟨g,o,none⟩=false:=by
  rcases h.2 with ⟨h0,hl⟩ | ⟨g,cp,cur,hv,hB,hblk,_⟩
  · injection h0 with h1 h2 h3
    exact Or.inl ⟨h1,List.length_eq_zero_iff.1 h2,h3⟩
  · injection hv with h1
    exact Or.inr ⟨g,h1,hB,(Array.getElem?_eq_some_iff.1 hblk).1,fun o=>frozen_free hblk⟩
theorem OwnK.cells {B g c:Nat} {w:World} {l:List Nv} {j:Nat} {v:Nv} (h:OwnK encV 56 8 B w (some ⟨g,0,none⟩) c l) (hj:l[j]? = some v):w.cell? ⟨g,j * 8,none⟩=some (.int .i64 v.kind)∧w.cell? ⟨g,j * 8 + 1,none⟩=some (.string v.attr)∧w.cell? ⟨g,j * 8 + 2,none⟩=some (.slice v.qi v.ni v.ci)∧w.cell? ⟨g,j * 8 + 3,none⟩=some (.slice v.qw v.nw v.cw)∧w.cell? ⟨g,j * 8 + 4,none⟩=some (.int .i64 v.lo)∧w.cell? ⟨g,j * 8 + 5,none⟩=some (.int .i64 v.hi)∧w.cell? ⟨g,j * 8 + 6,none⟩=some (.int .i64 v.op)∧w.cell? ⟨g,j * 8 + 7,none⟩=some (.slice v.qk v.nk v.ck):=by
  obtain ⟨b,off,hq,_,hc⟩:=h.ls.2.2.2.at hj
  cases hq
  have hh:=fun c hc'=>hc c hc'
  simp only [Nat.zero_add] at hh
  exact ⟨hh 0 (by omega),hh 1 (by omega),hh 2 (by omega),hh 3 (by omega),hh 4 (by omega),hh 5 (by omega),hh 6 (by omega),hh 7 (by omega)⟩
theorem OwnK.free {B g c:Nat} {w:World} {l:List Nv} (h:OwnK encV 56 8 B w (some ⟨g,0,none⟩) c l):g < w.heap.size∧∀ o,w.frozen? ⟨g,o,none⟩=false:=by
  rcases h.cases with ⟨h0,_⟩ | ⟨g',h1,_,h2,h3⟩
  · cases h0
  · cases h1;exact ⟨h2,h3⟩
theorem of8' {w:World} {N:Nat} {a0 a1 a2 a3 a4 a5 a6 a7:Value} {T:TypeId} (h:w.heap[N]? = some (.cells #[a0,a1,a2,a3,a4,a5,a6,a7] T (0,0))):w.cell? ⟨N,0,none⟩=some a0∧w.cell? ⟨N,1,none⟩=some a1∧w.cell? ⟨N,2,none⟩=some a2∧w.cell? ⟨N,3,none⟩=some a3∧w.cell? ⟨N,4,none⟩=some a4∧w.cell? ⟨N,5,none⟩=some a5∧w.cell? ⟨N,6,none⟩=some a6∧w.cell? ⟨N,7,none⟩=some a7:=by
  refine ⟨?_, ?_, ?_, ?_, ?_, ?_, ?_, ?_⟩ <;> (unfold World.cell?;simp [h])
/-- What cloneAll answers. -/
def AllPost (B:Nat) (w':World) (kids:List Nd) (e:Ending):Prop:=∃ q' c' vs',e=.returned (.slice q' kids.length c')∧OwnK encV 56 8 B w' q' c' vs'∧vs'.length=kids.length∧∀ (j:Nat) (v:Nv) (x:Nd),vs'[j]? = some v→kids[j]? = some x→NdFrom w' B v x
set_option maxHeartbeats 4000000 in
theorem cloneAll_any (q:Option Addr) (c:Nat) (kids:List Nd) (w:World) (hk:NdsOf w q c kids) (ih:∀ x ∈ kids,CloneP x) (hwt:wtL kids≤1000000000) :
    Calls Tryz.prog 149 #[.slice q kids.length c] w fun e w'=>AllPost w.heap.size w' kids e∧Below w.heap.size w w':=by
  obtain ⟨vs,hs,hvl,hin⟩:=hk
  have hln:=len_size kids
  have hln2:=sizeL_wt kids
  have hcl:=cloneV q c vs w hs (by omega)
  rw [hvl] at hcl
  have IH:=hide ih
  have HIN:=hide hin
  have a0:(kids.length:Int)≤1000000000:=by omega
  clear ih hin hs
  go_enter Tryz.func149,Tryz.ntmps149
  go_wp2_with (go_at_call 181;refine hcl.mono ?_;rintro e w1 ⟨q1,c1,rfl,o1,b1⟩;have O1:=hide o1;have B1:=hide b1;clear o1 b1)
  clear hcl
  rcases (uh O1).cases with ⟨rfl,rfl,rfl⟩ | ⟨g,rfl,hgB,hg,hfz⟩
  · have h0:kids=[]:=List.length_eq_zero_iff.1 (by simpa using hvl.symm)
    subst h0
    simp only [List.length_nil,Int.natCast_zero] at *
    go_loopw [10] (fun i wr=>i=.int .i64 0∧Hid (wr=w1)) (fun _ _=>0)
    case atStart=>exact ⟨rfl,hide rfl⟩
    case round =>
      obtain ⟨rfl,hwr⟩:=hrel
      obtain rfl:=(uh hwr).symm
      go_wp2
      go_ret
      exact ⟨⟨none,0,[],rfl,OwnK.nil _ _,rfl,fun j v x h=>by simp at h⟩,uh B1⟩
  · clear hfz
    go_loopw [10] (fun i wr=>∃ (k:Nat) (us:List Nv),k≤kids.length∧i=.int .i64 k∧us.length=k∧OwnK encV 56 8 w.heap.size wr (some ⟨g,0,none⟩) c1 (us ++ vs.drop k)∧(∀ (j:Nat) (v:Nv) (x:Nd),us[j]? = some v→kids[j]? = some x→NdFrom wr (g + 1) v x)∧Below w.heap.size w wr∧g < wr.heap.size) (fun i _=>kids.length - (intOf i).toNat)
    case atStart=>exact ⟨0,[],by omega,rfl,rfl,by simpa using uh O1,fun j v x h=>by simp at h,uh B1,hg⟩
    case round =>
      obtain ⟨k,us,hkk,rfl,hus,hown,hfr,hbel,hgr⟩:=hrel
      clear O1 B1 hg
      obtain ⟨U,rfl⟩:∃ U,U=wr:=⟨_,rfl⟩
      by_cases hlt:k < kids.length
      · obtain ⟨x,hx,hxd⟩:=get_at hlt
        obtain ⟨v,hv,hvd⟩:=get_at (l:=vs) (k:=k) (by omega)
        have hvk:(us ++ vs.drop k)[k]? = some v:=by
          rw [List.getElem?_append_right (by omega),hus,Nat.sub_self,hvd];rfl
        obtain ⟨y0,y1,y2,y3,y4,y5,y6,y7⟩:=hown.cells hvk
        have ki0:(0:Int)≤(k:Int):=by omega
        have ki1:(k:Int) < (kids.length:Int):=by omega
        have hxm:x ∈ kids:=List.mem_of_getElem? hx
        have hxs:=wtL_mem hxm
        obtain ⟨Y,HY⟩:∃ Y,U.alloc (.cells #[.int .i64 v.kind,.string v.attr,.slice v.qi v.ni v.ci,.slice v.qw v.nw v.cw,.int .i64 v.lo,.int .i64 v.hi,.int .i64 v.op,.slice v.qk v.nk v.ck] 56)=Y:=⟨_,rfl⟩
        have hM:Y.heap[U.heap.size]? = some (.cells #[.int .i64 v.kind,.string v.attr,.slice v.qi v.ni v.ci,.slice v.qw v.nw v.cw,.int .i64 v.lo,.int .i64 v.hi,.int .i64 v.op,.slice v.qk v.nk v.ck] 56 (0,0)):=by rw [← HY];simp [World.alloc,-World.alloc_eq]
        have hUY:Below U.heap.size U Y:=by rw [← HY];exact (Below.refl _ _).alloc (Nat.le_refl _) _
        obtain ⟨m0,m1,m2,m3,m4,m5,m6,m7⟩:=of8' hM
        have hYs:=hUY.size
        have hws:=hbel.size
        have hcx:=uh IH x hxm v Y (((uh HIN k v x hv hx).keep hbel).keep hUY) (by omega)
        simp only [Nv.val] at hcx
        have HOY:=hide (hown.below hUY)
        have HUY:=hide hUY
        have HB:=hide hbel
        have HFR:=hide hfr
        have HUS:=hide hus
        have HVD:=hide hvd
        have HXX:=hide hx
        have HL:=hide (show k < (us ++ vs.drop k).length by rw [List.length_append,hus,List.length_drop];omega)
        clear hown hfr hbel hUY hus hvd hx hxd hvk hM hv hxm
        go_wp2_with (go_at_call 148;refine hcx.mono ?_;rintro e w2 ⟨v',rfl,f2,b2⟩;have HO2:=hide ((uh HOY).below b2);have F2:=hide f2;have B2:=hide b2;obtain ⟨z0,z1,z2,z3,z4,z5,z6,z7⟩:=(uh HO2).cells (j:=k) (v:=v) (by rw [List.getElem?_append_right (by have:=uh HUS;omega),uh HUS,Nat.sub_self,uh HVD];rfl);obtain ⟨hgg,hff⟩:=(uh HO2).free;clear f2 b2)
        obtain ⟨o3,u3⟩:=own_set8 (uh HO2) (uh HL) v'
        have hset:(us ++ vs.drop k).set k v'=(us ++ [v']) ++ vs.drop (k + 1):=by
          rw [List.set_append_right _ _ (by have:=uh HUS;omega),uh HUS,Nat.sub_self,uh HVD];simp
        rw [hset] at o3
        refine ⟨⟨k + 1,us ++ [v'],by omega,congrArg (Value.int .i64) (by omega),by rw [List.length_append,uh HUS];rfl,o3, ?_,below_set8 ((uh HB).trans (((uh HUY).mono hws).trans ((uh B2).mono (by omega)))) hgB k v',by simpa using hgg⟩,by simp [intOf];omega⟩
        intro j y z hj hz
        by_cases hjk:j < k
        · rw [List.getElem?_append_left (by have:=uh HUS;omega)] at hj
          exact (((uh HFR j y z hj hz).keep (uh HUY)).keep (uh B2)).up u3
        · have hj2:=(List.getElem?_eq_some_iff.1 hj).1
          rw [List.length_append,uh HUS] at hj2
          obtain rfl:j=k:=by simp at hj2;omega
          rw [List.getElem?_append_right (by have:=uh HUS;omega),uh HUS,Nat.sub_self] at hj
          rw [uh HXX] at hz
          cases hj
          cases hz
          exact ((uh F2).mono (by omega)).up u3
      · have ki1:¬ (k:Int) < (kids.length:Int):=by omega
        have HO:=hide hown
        have HFR:=hide hfr
        have HB:=hide hbel
        clear hown hfr hbel
        go_wp2
        go_ret
        refine ⟨⟨some ⟨g,0,none⟩,c1,us,rfl, ?_,by omega,fun j y z hj hz=>(uh HFR j y z hj hz).mono (by omega)⟩,uh HB⟩
        have:=uh HO
        rw [List.drop_of_length_le (by omega),List.append_nil] at this
        exact this
theorem box_nw (w:World) (o:Obj):(w.alloc o).heap[w.heap.size]? = some o:=by simp [World.alloc,-World.alloc_eq]
theorem SameUp.set {B:Nat} {a w:World} (h:SameUp B a w) {p:Addr} (hp:p.block < B) (u:Value):SameUp B a (w.setCell p u) :=
  h.trans ⟨by simp,fun b o h1 _=>World.cell?_of_block (w:=w) (a:=⟨b,o,none⟩) (Below.heap_setCell w p u b (by show b ≠ p.block;omega))⟩
set_option maxHeartbeats 4000000 in
theorem clone_at (kind:Int) (attr:ByteArray) (qi:Option Addr) (ci:Nat) (ints:List Int) (qw:Option Addr) (cw:Nat) (words:List ByteArray) (lo hi op:Int) (qk:Option Addr) (ck:Nat) (kids:List Nd) (w:World) (h1:SlOf encI 1 w qi ci ints) (h2:SlOf encS 1 w qw cw words) (hk:NdsOf w qk ck kids) (ih:∀ x ∈ kids,CloneP x) (l1:ints.length≤1000000000) (l2:words.length≤1000000000) (l3:wtL kids≤1000000000) :
    Calls Tryz.prog 148 #[.agg #[.int .i64 kind,.string attr,.slice qi ints.length ci,.slice qw words.length cw,.int .i64 lo,.int .i64 hi,.int .i64 op,.slice qk kids.length ck]] w fun e w'=>∃ v',e=.returned v'.val∧NdFrom w' w.heap.size v' (.mk kind attr ints words lo hi op kids)∧Below w.heap.size w w':=by
  obtain ⟨X,HX⟩:∃ X,(w.alloc (.cells #[.int .i64 kind,.string attr,.slice qi ints.length ci,.slice qw words.length cw,.int .i64 lo,.int .i64 hi,.int .i64 op,.slice qk kids.length ck] 56)).alloc (.cells #[.int .i64 0,.string ⟨#[]⟩,.slice none 0 0,.slice none 0 0,.int .i64 0,.int .i64 0,.int .i64 0,.slice none 0 0] 56)=X:=⟨_,rfl⟩
  have hXs:X.heap.size=w.heap.size + 2:=by rw [← HX];simp
  have hwX:Below w.heap.size w X:=by rw [← HX];exact ((Below.refl _ _).alloc (Nat.le_refl _) _).alloc (by simp) _
  have hX0:X.heap[w.heap.size]? = some (.cells #[.int .i64 kind,.string attr,.slice qi ints.length ci,.slice qw words.length cw,.int .i64 lo,.int .i64 hi,.int .i64 op,.slice qk kids.length ck] 56 (0,0)):=by rw [← HX,Below.heap_alloc _ _ _ (by simp)];simp [World.alloc,-World.alloc_eq]
  have hX1:X.heap[w.heap.size + 1]? = some (.cells #[.int .i64 0,.string ⟨#[]⟩,.slice none 0 0,.slice none 0 0,.int .i64 0,.int .i64 0,.int .i64 0,.slice none 0 0] 56 (0,0)):=by rw [← HX,show w.heap.size + 1=(w.alloc (.cells #[.int .i64 kind,.string attr,.slice qi ints.length ci,.slice qw words.length cw,.int .i64 lo,.int .i64 hi,.int .i64 op,.slice qk kids.length ck] 56)).heap.size by simp];exact box_nw _ _
  obtain ⟨x0,x1,x2,x3,x4,x5,x6,x7⟩:=of8' hX0
  obtain ⟨y0,y1,y2,y3,y4,y5,y6,y7⟩:=of8' hX1
  have xf:∀ o,X.frozen? ⟨w.heap.size,o,none⟩=false:=fun o=>frozen_free hX0
  have yf:∀ o,X.frozen? ⟨w.heap.size + 1,o,none⟩=false:=fun o=>frozen_free hX1
  have c1:=cloneI qi ci ints X (h1.below hwX) (by omega)
  have c2:=fun w' (hb:Below w.heap.size w w')=>cloneS qw cw words w' (h2.below hb) (by omega)
  have c3:=fun w' (hb:Below w.heap.size w w')=>cloneAll_any qk ck kids w' (hk.below hb) ih l3
  have HWX:=hide hwX
  clear h1 h2 hk ih hwX hX0 hX1
  go_enter Tryz.func148,Tryz.ntmps148
  go_wp2_with (first
    | (go_at_call 97;refine c1.mono ?_;rintro e w1 ⟨q1,k1,rfl,o1,b1⟩;obtain ⟨hc1,hf1⟩:=bcell b1;have hz1:w.heap.size + 1 < w1.heap.size:=(by have:=b1.size;omega);have hz1':w.heap.size < w1.heap.size:=(by omega);rw [hXs] at hc1 hf1;have O1:=hide o1;have B1:=hide b1;clear o1 b1)
    | (go_at_call 176;refine (c2 _ (by exact (below_sub (uh HWX) (uh B1)).setCell (Nat.le_refl _) _)).mono ?_;rintro e w2 ⟨q2,k2,rfl,o2,b2⟩;obtain ⟨hc2,hf2⟩:=bcell b2;simp only [World.size_setCell] at hc2 hf2;have hz2:w.heap.size + 1 < w2.heap.size:=(by have:=b2.size;simp at this;omega);have hz2':w.heap.size < w2.heap.size:=(by omega);have O2:=hide o2;have B2:=hide b2;clear o2 b2)
    | (go_at_call 149;refine (c3 _ (by exact (below_sub ((below_sub (uh HWX) (uh B1)).setCell (Nat.le_refl _) _) (uh B2)).setCell (Nat.le_refl _) _)).mono ?_;rintro e w3 ⟨⟨q3,k3,vs3,rfl,o3,l3',f3⟩,b3⟩;obtain ⟨hc3,hf3⟩:=bcell b3;have hz3:w.heap.size + 1 < w3.heap.size:=(by have:=b3.size;simp at this;omega);have hz3':w.heap.size < w3.heap.size:=(by omega);have O3:=hide o3;have B3:=hide b3;have F3:=hide f3;have L3:=hide l3';clear o3 b3 f3 l3'))
  refine bodyPost_ret (v:=.agg #[.int .i64 kind,.string attr,.slice q1 ints.length k1,.slice q2 words.length k2,.int .i64 lo,.int .i64 hi,.int .i64 op,.slice q3 kids.length k3]) (by simp [results,Tryz.results148,go_sem, *]) rfl ?_
  have s1:=(uh B1).size
  have s2:=(uh B2).size
  have s3:=(uh B3).size
  simp only [World.size_setCell] at s2 s3
  have u0:∀ (W:World),SameUp (w.heap.size + 2) W W:=fun W=>SameUp.of (Below.refl _ _)
  have u3:=(((((((((u0 w3).set (p:=⟨w.heap.size,7,none⟩) (by simp) (.slice q3 kids.length k3)).set (p:=⟨w.heap.size + 1,0,none⟩) (by simp) (.int .i64 kind)).set (p:=⟨w.heap.size + 1,1,none⟩) (by simp) (.string attr)).set (p:=⟨w.heap.size + 1,2,none⟩) (by simp) (.slice q1 ints.length k1)).set (p:=⟨w.heap.size + 1,3,none⟩) (by simp) (.slice q2 words.length k2)).set (p:=⟨w.heap.size + 1,4,none⟩) (by simp) (.int .i64 lo)).set (p:=⟨w.heap.size + 1,5,none⟩) (by simp) (.int .i64 hi)).set (p:=⟨w.heap.size + 1,6,none⟩) (by simp) (.int .i64 op)).set (p:=⟨w.heap.size + 1,7,none⟩) (by simp) (.slice q3 kids.length k3)
  have u2:=(((u0 w2).set (p:=⟨w.heap.size,3,none⟩) (by simp) (.slice q2 words.length k2)).trans (SameUp.of (uh B3))).trans u3
  have u1:=(((u0 w1).set (p:=⟨w.heap.size,2,none⟩) (by simp) (.slice q1 ints.length k1)).trans (SameUp.of (uh B2))).trans u2
  have g1:∀ a,q1=some a→w.heap.size + 2≤a.block:=fun a e=>by have:=(uh O1).from a e;omega
  have g2:∀ a,q2=some a→w.heap.size + 2≤a.block:=fun a e=>by have:=(uh O2).from a e;simp only [World.size_setCell] at this;omega
  have g3:∀ a,q3=some a→w.heap.size + 2≤a.block:=fun a e=>by have:=(uh O3).from a e;simp only [World.size_setCell] at this;omega
  refine ⟨⟨kind,attr,q1,ints.length,k1,q2,words.length,k2,lo,hi,op,q3,kids.length,k3⟩,rfl, ?_, ?_⟩
  · have hf:∀ (j:Nat) (v:Nv) (x:Nd),vs3[j]? = some v→kids[j]? = some x→NdFrom _ (w.heap.size + 2) v x:=fun j v x hj hx=>((uh F3 j v x hj hx).mono (by simp only [World.size_setCell];omega)).up u3
    exact (NdFrom.make ((uh O1).ls.up g1 u1) g1 ((uh O2).ls.up g2 u2) g2 ((uh O3).ls.up g3 u3) g3 (uh L3) hf).mono (by omega)
  · exact ((((((((((below_sub ((below_sub ((below_sub (uh HWX) (uh B1)).setCell (Nat.le_refl _) _) (uh B2)).setCell (Nat.le_refl _) _) (uh B3)).setCell (Nat.le_refl _) _).setCell (Nat.le_succ _) _).setCell (Nat.le_succ _) _).setCell (Nat.le_succ _) _).setCell (Nat.le_succ _) _).setCell (Nat.le_succ _) _).setCell (Nat.le_succ _) _).setCell (Nat.le_succ _) _).setCell (Nat.le_succ _) _)
theorem clone_any:∀ x,CloneP x:=by
  intro t
  induction t using Nd.ind with
  | h kind attr ints words lo hi op kids ih =>
    intro v w hin hwt
    obtain ⟨qi,ci,qw,cw,qk,ck,rfl,h1,h2,hk⟩:=hin.parts
    simp only [wtN] at hwt
    have hwl:=words_len words
    exact clone_at kind attr qi ci ints qw cw words lo hi op qk ck kids w h1 h2 hk ih (by omega) (by omega) (by omega)
end Go.Proofs.YtimklglliffpcaaGreat
namespace Go.Proofs.YtimklglliffpcaaGreat
open Go.RowKit Go.Sort

/-- A tree in new memory. -/
def NewT (B:Nat) (w':World) (t:Nd) (e:Ending):Prop:=∃ v',e=.returned v'.val∧NdFrom w' B v' t
def zeroT:Nd:=.mk 0 ⟨#[]⟩ [] [] 0 0 0 []
def joinT (op:Int) (kids:List Nd):Nd:=match kids with
  | []=>zeroT
  | [x]=>x
  | _=>.mk 0 ⟨#[]⟩ [] [] 0 0 op kids
theorem joinT_many (op:Int) {kids:List Nd} (h:2≤kids.length):joinT op kids=.mk 0 ⟨#[]⟩ [] [] 0 0 op kids:=by
  match kids,h with
  | _ :: _ :: _,_=>rfl
theorem no_from {B:Nat}:∀ a:Addr,(none:Option Addr)=some a→B≤a.block:=fun _ h=>by cases h
set_option maxHeartbeats 1000000 in
theorem leaf_any (kind:Int) (attr:ByteArray) (qi:Option Addr) (ni ci:Nat) (qw:Option Addr) (nw cw:Nat) (lo hi:Int) (w:World) :
    Calls Tryz.prog 96 #[.agg #[.int .i64 kind,.string attr,.slice qi ni ci,.slice qw nw cw,.int .i64 lo,.int .i64 hi]] w fun e w'=>e=.returned (.agg #[.int .i64 kind,.string attr,.slice qi ni ci,.slice qw nw cw,.int .i64 lo,.int .i64 hi,.int .i64 1,.slice none 0 0])∧Below w.heap.size w w':=by
  go_enter Tryz.func96,Tryz.ntmps96
  go_wp2
  refine bodyPost_ret (v:=.agg #[.int .i64 kind,.string attr,.slice qi ni ci,.slice qw nw cw,.int .i64 lo,.int .i64 hi,.int .i64 1,.slice none 0 0]) (by simp [results,Tryz.results96,go_sem]) rfl ⟨rfl, ?_⟩
  exact ((Below.refl _ _).alloc (Nat.le_refl _) _).alloc (by simp) _
theorem set8_below {B g:Nat} {a w:World} (h:Below B a w) (hg:B≤g) (a0 a1 a2 a3 a4 a5 a6 a7:Value):Below B a ((((((((w.setCell ⟨g,0,none⟩ a0).setCell ⟨g,1,none⟩ a1).setCell ⟨g,2,none⟩ a2).setCell ⟨g,3,none⟩ a3).setCell ⟨g,4,none⟩ a4).setCell ⟨g,5,none⟩ a5).setCell ⟨g,6,none⟩ a6).setCell ⟨g,7,none⟩ a7) :=
  (((((((h.setCell hg _).setCell hg _).setCell hg _).setCell hg _).setCell hg _).setCell hg _).setCell hg _).setCell hg _
theorem set8_up {B g:Nat} (w:World) (hg:g < B) (a0 a1 a2 a3 a4 a5 a6 a7:Value):SameUp B w ((((((((w.setCell ⟨g,0,none⟩ a0).setCell ⟨g,1,none⟩ a1).setCell ⟨g,2,none⟩ a2).setCell ⟨g,3,none⟩ a3).setCell ⟨g,4,none⟩ a4).setCell ⟨g,5,none⟩ a5).setCell ⟨g,6,none⟩ a6).setCell ⟨g,7,none⟩ a7) :=
  (((((((((SameUp.of (Below.refl _ _)).set hg _).set hg _).set hg _).set hg _).set hg _).set hg _).set hg _).set hg _)
/-- The cell of a result, behind calls. -/
theorem boxR {w w1:World} (hb:Below (w.alloc (.cells #[.int .i64 0,.string ⟨#[]⟩,.slice none 0 0,.slice none 0 0,.int .i64 0,.int .i64 0,.int .i64 0,.slice none 0 0] 56)).heap.size (w.alloc (.cells #[.int .i64 0,.string ⟨#[]⟩,.slice none 0 0,.slice none 0 0,.int .i64 0,.int .i64 0,.int .i64 0,.slice none 0 0] 56)) w1) :
    w.heap.size < w1.heap.size∧(w1.cell? ⟨w.heap.size,0,none⟩=some (.int .i64 0)∧w1.cell? ⟨w.heap.size,1,none⟩=some (.string ⟨#[]⟩)∧w1.cell? ⟨w.heap.size,2,none⟩=some (.slice none 0 0)∧w1.cell? ⟨w.heap.size,3,none⟩=some (.slice none 0 0)∧w1.cell? ⟨w.heap.size,4,none⟩=some (.int .i64 0)∧w1.cell? ⟨w.heap.size,5,none⟩=some (.int .i64 0)∧w1.cell? ⟨w.heap.size,6,none⟩=some (.int .i64 0)∧w1.cell? ⟨w.heap.size,7,none⟩=some (.slice none 0 0))∧∀ o,w1.frozen? ⟨w.heap.size,o,none⟩=false:=by
  have hs:=hb.size
  have hlt:w.heap.size < (w.alloc (.cells #[.int .i64 0,.string ⟨#[]⟩,.slice none 0 0,.slice none 0 0,.int .i64 0,.int .i64 0,.int .i64 0,.slice none 0 0] 56)).heap.size:=by simp
  have hh:=(hb.block _ hlt).trans (box_nw w _)
  exact ⟨by simp at hs;omega,of8' hh,fun o=>frozen_free hh⟩
set_option maxHeartbeats 2000000 in
theorem ints_any (attr:ByteArray) (q:Option Addr) (c:Nat) (l:List Int) (w:World) (h:SlOf encI 1 w q c l) (hl:l.length≤1000000000000) :
    Calls Tryz.prog 43 #[.string attr,.slice q l.length c] w fun e w'=>NewT w.heap.size w' (.mk 1 attr l [] 0 0 1 []) e∧Below w.heap.size w w':=by
  have hc:=cloneI q c l _ (h.below ((Below.refl w.heap.size w).alloc (Nat.le_refl _) (.cells #[.int .i64 0,.string ⟨#[]⟩,.slice none 0 0,.slice none 0 0,.int .i64 0,.int .i64 0,.int .i64 0,.slice none 0 0] 56))) hl
  clear h hl
  have B0:=hide ((Below.refl w.heap.size w).alloc (Nat.le_refl _) (.cells #[.int .i64 0,.string ⟨#[]⟩,.slice none 0 0,.slice none 0 0,.int .i64 0,.int .i64 0,.int .i64 0,.slice none 0 0] 56))
  go_enter Tryz.func43,Tryz.ntmps43
  go_wp2_with (first
    | (go_at_call 97;refine hc.mono ?_;rintro e w1 ⟨q1,k1,rfl,o1,b1⟩;have O1:=hide o1;have B1:=hide b1;clear o1 b1)
    | (go_at_call 96;refine (leaf_any _ _ _ _ _ _ _ _ _ _ _).mono ?_;rintro e w2 ⟨rfl,b2⟩;obtain ⟨z1,⟨r0,r1,r2,r3,r4,r5,r6,r7⟩,rf⟩:=boxR (below_sub (uh B1) b2);have B2:=hide b2;clear b2))
  refine bodyPost_ret (v:=.agg #[.int .i64 1,.string attr,.slice q1 l.length k1,.slice none 0 0,.int .i64 0,.int .i64 0,.int .i64 1,.slice none 0 0]) (by simp [results,Tryz.results43,go_sem, *]) rfl ?_
  have s1:=(uh B1).size
  simp at s1
  have f1:∀ a,q1=some a→w.heap.size + 1≤a.block:=fun a e=>by have:=(uh O1).from a e;simp at this;omega
  refine ⟨⟨⟨1,attr,q1,l.length,k1,none,0,0,0,0,1,none,0,0⟩,rfl, ?_⟩,set8_below (below_sub (below_sub (uh B0) (uh B1)) (uh B2)) (Nat.le_refl _) _ _ _ _ _ _ _ _⟩
  exact (NdFrom.make (kids:=[]) (vs:=[]) ((uh O1).ls.up f1 ((SameUp.of (uh B2)).trans (set8_up (B:=w.heap.size + 1) (g:=w.heap.size) _ (Nat.lt_succ_self _) _ _ _ _ _ _ _ _))) f1 (SlOf.none _) no_from (SlOf.none _) no_from rfl (fun j v x h=>by simp at h)).mono (Nat.le_succ _)
end Go.Proofs.YtimklglliffpcaaGreat
namespace Go.Proofs.YtimklglliffpcaaGreat
open Go.RowKit Go.Sort

theorem LsOf.take {α:Type} [Inhabited α] {enc:α→List Value} {k:Nat} {w:World} {q:Option Addr} {l m:List α} (hk:0 < k) (h:LsOf enc k w q (l ++ m)):LsOf enc k w q l:=fun h0=>by
  obtain ⟨b,off,hq,hb,hA⟩:=h (by simp;omega)
  refine ⟨b,off,hq,hb,fun j u hj=>hA j u ?_⟩
  rw [flat_app enc k hk,List.getElem?_append_left (List.getElem?_eq_some_iff.1 hj).1];exact hj
def spI:List Int:=[-77,-78]
def spS:List ByteArray:=[⟨#[115,112,97,114,101]⟩,⟨#[114,111,111,109]⟩]
end Go.Proofs.YtimklglliffpcaaGreat

/- The reference's down: what is pushed, some of it shared with what was handed in. -/
import Derived.Test.YtikhopiegaoacabOPushPlain
namespace Go.Proofs.Ytikhopiegaoacab
open Go.RowKit Go.Sort

theorem NdIn.up0 {w w':World} {v:Nv} {t:Nd} (h:NdIn w v t) (hu:SameUp 0 w w'):NdIn w' v t:=by
  induction h with
  | mk hi hw hk hl hr ih=>exact .mk (hi.up (fun _ _=>Nat.zero_le _) hu) (hw.up (fun _ _=>Nat.zero_le _) hu) (hk.up (fun _ _=>Nat.zero_le _) hu) hl fun j v x hj hx=>ih j v x hj hx
/-- The tree hangs on the blocks below B0 and from B1 on alone. -/
def Foot (B0 B1:Nat) (w:World) (u:Nv) (t:Nd):Prop:=∀ w':World,w.heap.size≤w'.heap.size→(∀ b,(b < B0 ∨ B1≤b)→b < w.heap.size→w'.heap[b]? = w.heap[b]?)→NdIn w' u t
theorem Foot.now {B0 B1:Nat} {w:World} {u:Nv} {t:Nd} (h:Foot B0 B1 w u t):NdIn w u t:=h w (Nat.le_refl _) fun _ _ _=>rfl
theorem Foot.mono {B0 B1 B1':Nat} {w:World} {u:Nv} {t:Nd} (h:Foot B0 B1 w u t) (hB:B1'≤B1):Foot B0 B1' w u t:=fun w' hs hc=>h w' hs fun b hb hlt=>hc b (hb.elim Or.inl fun h=>Or.inr (by omega)) hlt
theorem Foot.step {B0 B1:Nat} {w w1:World} {u:Nv} {t:Nd} (h:Foot B0 B1 w u t) (hs:w.heap.size≤w1.heap.size) (hc:∀ b,(b < B0 ∨ B1≤b)→b < w.heap.size→w1.heap[b]? = w.heap[b]?):Foot B0 B1 w1 u t:=fun w' hs' hc' =>
  h w' (Nat.le_trans hs hs') fun b hb hlt=>(hc' b hb (Nat.lt_of_lt_of_le hlt hs)).trans (hc b hb hlt)
theorem Foot.of {w0 w:World} {B1:Nat} {v:Nv} {t:Nd} (h:NdIn w0 v t) (hb:Below w0.heap.size w0 w):Foot w0.heap.size B1 w v t:=fun _ hs hc =>
  h.up0 ⟨Nat.le_trans hb.size hs,fun b _ hlt=>(hc b (Or.inl hlt) (Nat.lt_of_lt_of_le hlt hb.size)).trans (hb.block b hlt)⟩
/-- P hangs on these blocks, but not on the blocks pb and g. -/
def Off2 (B0 B1:Nat) (P:World→Prop) (pb:Nat) (g:Option Nat) (w:World):Prop:=∀ w':World,w.heap.size≤w'.heap.size→(∀ b,(b < B0 ∨ B1≤b)→b < w.heap.size→b ≠ pb→some b ≠ g→w'.heap[b]? = w.heap[b]?)→P w'
section
variable {B0 B1 pb : Nat} {P Q : World → Prop} {g g' : Option Nat} {w w' : World}
theorem Off2.imp (h:Off2 B0 B1 P pb g w) (hi:∀ w,P w→Q w):Off2 B0 B1 Q pb g w:=fun w' hs hc=>hi _ (h w' hs hc)
theorem Off2.and (h:Off2 B0 B1 P pb g w) (k:Off2 B0 B1 Q pb g w):Off2 B0 B1 (fun w=>P w∧Q w) pb g w:=fun w' hs hc=>⟨h w' hs hc,k w' hs hc⟩
theorem Off2.below (h:Off2 B0 B1 P pb g w) (hb:Below w.heap.size w w'):Off2 B0 B1 P pb g w':=fun w'' hs hc =>
  h w'' (Nat.le_trans hb.size hs) fun b hB hlt h1 h2=>(hc b hB (Nat.lt_of_lt_of_le hlt hb.size) h1 h2).trans (hb.block b hlt)
theorem Off2.step (h:Off2 B0 B1 P pb g w) (hg:w.grownBy w' g) (hor:g'=g ∨ g'=some w.heap.size):Off2 B0 B1 P pb g' w':=fun w'' hs hc =>
  h w'' (Nat.le_trans hg.size hs) fun b hB hlt h1 hne=>(hc b hB (Nat.lt_of_lt_of_le hlt hg.size) h1 (hor.elim (fun e=>by rw [e];exact hne) (fun e=>by rw [e];intro e2;cases e2;omega))).trans (hg.block b hlt hne)
theorem Off2.set (h:Off2 B0 B1 P pb g w) (i:Nat) (u:Value):Off2 B0 B1 P pb g (w.setCell ⟨pb,i,none⟩ u):=fun w'' hs hc =>
  h w'' (by simpa using hs) fun b hB hlt h1 hne=>(hc b hB (by simpa using hlt) h1 hne).trans (Below.heap_setCell w ⟨pb,i,none⟩ u b h1)
theorem Off2.foot {C:Nat} {u:Nv} {t:Nd} (h:Foot B0 C w u t) (hC:B1≤C) (hp0:B0≤pb) (hp:pb < C) (hg:∀ b,g=some b→B0≤b∧b < C):Off2 B0 B1 (fun w=>NdIn w u t) pb g w:=fun w' hs hc =>
  h w' hs fun b hb hlt=>hc b (hb.elim Or.inl fun h=>Or.inr (by omega)) hlt (by omega) (fun e=>by have:=hg b e.symm;omega)
end
def InAll (D:List Nd) (us:List Nv) (w:World):Prop:=∀ (j:Nat) (v:Nv) (x:Nd),us[j]? = some v→D[j]? = some x→NdIn w v x
theorem rdown_round {X wr w2 w3:World} {pb k cm c3 B0 B1:Nat} {qm q3:Option Addr} {us:List Nv} {u:Nv} {D:List Nd} {y:Nd}
    (HB:Below pb X wr) (R3:Below wr.heap.size wr w2) (HO:OwnK encV 28 8 (pb + 1) wr qm cm us) (HF:Off2 B0 B1 (InAll D us) pb (Value.slice qm k cm).ownBlock wr) (HU:Foot B0 wr.drew.heap.size w2 u y) (HDK:D[k]? = some y) (HUS:us.length=k)
    (HG3:(w2.alloc (.cells #[.int .i64 u.kind,.string u.attr,.slice u.qi u.ni u.ci,.slice u.qw u.nw u.cw,.int .i64 u.lo,.int .i64 u.hi,.int .i64 u.op,.slice u.qk u.nk u.ck] 28)).grownBy w3 (Value.slice qm k cm).ownBlock) (HR3:(Value.slice q3 (k + 1) c3).ownBlock=(Value.slice qm k cm).ownBlock ∨ (Value.slice q3 (k + 1) c3).ownBlock=some (w2.alloc (.cells #[.int .i64 u.kind,.string u.attr,.slice u.qi u.ni u.ci,.slice u.qw u.nw u.cw,.int .i64 u.lo,.int .i64 u.hi,.int .i64 u.op,.slice u.qk u.nk u.ck] 28)).heap.size) (HO3:OwnK encV 28 8 (pb + 1) w3 q3 c3 (us ++ [u])) (HP3:w3.heap[pb]? = wr.heap[pb]?) (lpb:pb < wr.heap.size) (n7:w3.cell? ⟨pb,7,none⟩=some (.slice qm k cm)) (hw0:B0≤pb) (hwp:B1≤pb) :
    OwnK encV 28 8 (pb + 1) (w3.setCell ⟨pb,7,none⟩ (.slice q3 (k + 1) c3)) q3 c3 (us ++ [u])∧Off2 B0 B1 (InAll D (us ++ [u])) pb (Value.slice q3 (k + 1) c3).ownBlock (w3.setCell ⟨pb,7,none⟩ (.slice q3 (k + 1) c3))∧(∀ o,o < 7→(w3.setCell ⟨pb,7,none⟩ (.slice q3 (k + 1) c3)).cell? ⟨pb,o,none⟩=wr.cell? ⟨pb,o,none⟩)∧(w3.setCell ⟨pb,7,none⟩ (.slice q3 (k + 1) c3)).cell? ⟨pb,7,none⟩=some (.slice q3 (k + 1) c3)∧(∀ o,(w3.setCell ⟨pb,7,none⟩ (.slice q3 (k + 1) c3)).frozen? ⟨pb,o,none⟩=wr.frozen? ⟨pb,o,none⟩)∧Below pb X (w3.setCell ⟨pb,7,none⟩ (.slice q3 (k + 1) c3))∧pb < (w3.setCell ⟨pb,7,none⟩ (.slice q3 (k + 1) c3)).heap.size:=by
  have s2:=R3.size
  have s3:=HG3.size
  simp only [size_al] at s3
  have hlt:=HO.ownLt HUS
  have hge:=HO.ownGe HUS
  have bA:Below wr.heap.size wr (w2.alloc (.cells #[.int .i64 u.kind,.string u.attr,.slice u.qi u.ni u.ci,.slice u.qw u.nw u.cw,.int .i64 u.lo,.int .i64 u.hi,.int .i64 u.op,.slice u.qk u.nk u.ck] 28)):=below_sub R3 ((Below.refl w2.heap.size w2).alloc (Nat.le_refl _) _)
  have hdz:wr.drew.heap.size=wr.heap.size:=rfl
  rw [hdz] at HU
  have UA:Foot B0 wr.heap.size (w2.alloc (.cells #[.int .i64 u.kind,.string u.attr,.slice u.qi u.ni u.ci,.slice u.qw u.nw u.cw,.int .i64 u.lo,.int .i64 u.hi,.int .i64 u.op,.slice u.qk u.nk u.ck] 28)) u y:=HU.step (by simp) (fun b _ hb=>((Below.refl w2.heap.size w2).alloc (Nat.le_refl _) (.cells #[.int .i64 u.kind,.string u.attr,.slice u.qi u.ni u.ci,.slice u.qw u.nw u.cw,.int .i64 u.lo,.int .i64 u.hi,.int .i64 u.op,.slice u.qk u.nk u.ck] 28)).block b hb)
  refine ⟨HO3.setOff (by simp only;omega) _, ?_, ?_, ?_, ?_, ?_,by simp;omega⟩
  · refine Off2.set ?_ 7 _
    exact (((HF.below bA).step HG3 HR3).and ((Off2.foot UA (by omega) (by omega) (by omega) (fun b e=>by have:=hlt b e;have:=hge b e;omega)).step HG3 HR3)).imp (fun W h=>snoc_all h.1 HUS HDK h.2)
  · intro o ho
    have h1:(w3.setCell ⟨pb,7,none⟩ (.slice q3 (k + 1) c3)).cell? ⟨pb,o,none⟩=w3.cell? ⟨pb,o,none⟩:=by
      have:¬ 7=o:=by omega
      go_simp
    exact h1.trans (World.cell?_of_block (w:=wr) (a:=⟨pb,o,none⟩) HP3)
  · go_simp
  · intro o
    have h1:(w3.setCell ⟨pb,7,none⟩ (.slice q3 (k + 1) c3)).frozen? ⟨pb,o,none⟩=w3.frozen? ⟨pb,o,none⟩:=by go_simp
    exact h1.trans (World.frozen?_of_block (w:=wr) (a:=⟨pb,o,none⟩) HP3)
  · have:=(HB.trans (bA.mono (by omega))).grown HG3 (by simp only [size_al];omega) (fun j hj=>by have:=hge j hj;omega)
    exact this.setCell (Nat.le_refl _) _
theorem rdown_fin {w0 w wr:World} {pb c n:Nat} {op:Int} {q:Option Addr} {us:List Nv} {D:List Nd} (ho:OwnK encV 28 8 (pb + 1) wr q c us) (hf:Off2 w0.heap.size (w.heap.size + 2) (InAll D us) pb (Value.slice q n c).ownBlock wr) (hl:us.length=D.length) (hn:D.length=n) (h1:w0.heap.size≤w.heap.size) (h2:w.heap.size + 2≤pb) (a0 a1 a2 a3 a4 a5 a6 a7:Value) :
    Foot w0.heap.size w.heap.size ((((((((wr.setCell ⟨w.heap.size + 1,0,none⟩ a0).setCell ⟨w.heap.size + 1,1,none⟩ a1).setCell ⟨w.heap.size + 1,2,none⟩ a2).setCell ⟨w.heap.size + 1,3,none⟩ a3).setCell ⟨w.heap.size + 1,4,none⟩ a4).setCell ⟨w.heap.size + 1,5,none⟩ a5).setCell ⟨w.heap.size + 1,6,none⟩ a6).setCell ⟨w.heap.size + 1,7,none⟩ a7) ⟨0,⟨#[]⟩,none,0,0,none,0,0,0,0,op,q,n,c⟩ (.mk 0 ⟨#[]⟩ [] [] 0 0 op D):=by
  subst hn
  have up:=set8_up (B:=w.heap.size + 2) (g:=w.heap.size + 1) wr (by omega) a0 a1 a2 a3 a4 a5 a6 a7
  have bl:=set8_below (B:=w.heap.size + 1) (g:=w.heap.size + 1) (Below.refl _ wr) (Nat.le_refl _) a0 a1 a2 a3 a4 a5 a6 a7
  refine Foot.mono (B1:=w.heap.size + 2) ?_ (by omega)
  intro w' hs hc
  have hu2:SameUp (w.heap.size + 2) wr w':=up.trans ⟨hs,fun b hb hlt=>hc b (Or.inr hb) hlt⟩
  have hall:InAll D us w':=hf w' hu2.1 (fun b hb hlt _ _=>by
    rcases hb with hb | hb
    · exact (hc b (Or.inl hb) (Nat.lt_of_lt_of_le hlt up.1)).trans (bl.block b (by omega))
    · exact hu2.2 b hb hlt)
  exact NdIn.make (ints:=[]) (words:=[]) (SlOf.none _) (SlOf.none _) ⟨us,ho.ls.up (fun a e=>Nat.le_trans (show w.heap.size + 2≤pb + 1 by omega) (ho.from a e)) hu2,hl,hall⟩
theorem foot_set8 {B0 B1 gg:Nat} {w:World} {u:Nv} {t:Nd} (h:Foot B0 B1 w u t) (h0:B0≤gg) (h1:gg < B1) (a0 a1 a2 a3 a4 a5 a6 a7:Value):Foot B0 B1 ((((((((w.setCell ⟨gg,0,none⟩ a0).setCell ⟨gg,1,none⟩ a1).setCell ⟨gg,2,none⟩ a2).setCell ⟨gg,3,none⟩ a3).setCell ⟨gg,4,none⟩ a4).setCell ⟨gg,5,none⟩ a5).setCell ⟨gg,6,none⟩ a6).setCell ⟨gg,7,none⟩ a7) u t:=by
  have up:=set8_up (B:=B1) (g:=gg) w h1 a0 a1 a2 a3 a4 a5 a6 a7
  have bl:=set8_below (B:=gg) (g:=gg) (Below.refl _ w) (Nat.le_refl _) a0 a1 a2 a3 a4 a5 a6 a7
  refine h.step up.1 (fun b hb hlt=>?_)
  rcases hb with hb | hb
  · exact bl.block b (by omega)
  · exact up.2 b hb hlt
theorem foot_not {B0 B1 M:Nat} {W:World} {v:Nv} {t:Nd} (hM:W.heap[M]? = some (.cells #[.int .i64 v.kind,.string v.attr,.slice v.qi v.ni v.ci,.slice v.qw v.nw v.cw,.int .i64 v.lo,.int .i64 v.hi,.int .i64 v.op,.slice v.qk v.nk v.ck] 28 (0,0))) (hB:B1≤M) (hv:Foot B0 B1 W v t):Foot B0 B1 W ⟨0,⟨#[]⟩,none,0,0,none,0,0,0,0,2,some ⟨M,0,none⟩,1,1⟩ (notT t):=fun w' hs hc =>
  NdIn.make (ints:=[]) (words:=[]) (kids:=[t]) (SlOf.none _) (SlOf.none _) ⟨[v],(of_block (vs:=[v]) hM (by rw [flat_1];rfl) (by simp)).up (B:=B1) (fun a e=>by cases e;exact hB) ⟨hs,fun b hb hlt=>hc b (Or.inr hb) hlt⟩,rfl,fun j u y hj hy=>by
    match j,hj,hy with
    | 0,hj,hy=>cases hj;cases hy;exact hv w' hs hc⟩
def RDownP (x:Nd):Prop:=∀ (neg:Bool) (v:Nv) (w0 w:World),NdIn w0 v x→Below w0.heap.size w0 w→chkN x=true→wtN x≤1000000000→Calls Try.prog 24 #[v.val,.bool neg] w fun e w'=>(∃ u,e=.returned u.val∧Foot w0.heap.size w.heap.size w' u (downN x neg))∧Below w.heap.size w w'
set_option maxRecDepth 100000 in
set_option maxHeartbeats 8000000 in
theorem rdown_many (kind:Int) (attr:ByteArray) (qi:Option Addr) (ci:Nat) (ints:List Int) (qw:Option Addr) (cw:Nat) (words:List ByteArray) (lo hi op op2:Int) (qk:Option Addr) (ck:Nat) (kids:List Nd) (neg:Bool) (w0 w:World) (hk:NdsOf w0 qk ck kids) (hb0:Below w0.heap.size w0 w) (ih:∀ x ∈ kids,RDownP x) (hc:∀ x ∈ kids,chkN x=true) (l3:wtL kids≤1000000000) (ho34:op=3 ∨ op=4) (hop:(if neg then 7 - op else op)=op2) :
    Calls Try.prog 24 #[.agg #[.int .i64 kind,.string attr,.slice qi ints.length ci,.slice qw words.length cw,.int .i64 lo,.int .i64 hi,.int .i64 op,.slice qk kids.length ck],.bool neg] w fun e w'=>(∃ u,e=.returned u.val∧Foot w0.heap.size w.heap.size w' u (.mk 0 ⟨#[]⟩ [] [] 0 0 op2 (downL kids neg)))∧Below w.heap.size w w':=by
  have hlen:=Nat.le_trans (Nat.le_trans (len_size kids) (sizeL_wt kids)) l3
  have a0:(kids.length:Int)≤1000000000:=by omega
  obtain ⟨X,HX⟩:∃ X,(w.alloc (.cells #[.int .i64 kind,.string attr,.slice qi ints.length ci,.slice qw words.length cw,.int .i64 lo,.int .i64 hi,.int .i64 op,.slice qk kids.length ck] 28)).alloc (.cells #[.int .i64 0,.string ⟨#[]⟩,.slice none 0 0,.slice none 0 0,.int .i64 0,.int .i64 0,.int .i64 0,.slice none 0 0] 28)=X:=⟨_,rfl⟩
  obtain ⟨hX0,hX1,hwX,hXs⟩:=twoM HX
  obtain ⟨x0,x1,x2,x3,x4,x5,x6,x7⟩:=of8' hX0
  obtain ⟨y0,y1,y2,y3,y4,y5,y6,y7⟩:=of8' hX1
  have yf:∀ o,X.frozen? ⟨w.heap.size + 1,o,none⟩=false:=fun o=>frozen_free hX1
  have hz1:w.heap.size + 1 < X.heap.size:=by omega
  have HWX:=hide hwX
  have hz0:w.heap.size < X.heap.size:=by omega
  have HK:=hide hk
  have IH:=hide ih
  have HC:=hide hc
  have HB00:=hide hb0
  have HB0:=hide (below_sub hb0 hwX)
  have e1:(op == 1)=false:=by rcases ho34 with rfl | rfl <;> rfl
  have e2:(op == 2)=false:=by rcases ho34 with rfl | rfl <;> rfl
  have wop:wrap64 (7 - op)=7 - op:=by unfold wrap64;omega
  have mixed:Try.prog.follows .mixedOrders=true:=by kernel_rfl
  clear hk ih hc hb0 hwX
  have start:∀ (W:World),W=X.alloc (.cells #[.int .i64 0,.string ⟨#[]⟩,.slice none 0 0,.slice none 0 0,.int .i64 0,.int .i64 0,.int .i64 op2,.slice none 0 0] 28)→((W.cell? ⟨X.heap.size,0,none⟩=some (.int .i64 0)∧W.cell? ⟨X.heap.size,1,none⟩=some (.string ⟨#[]⟩)∧W.cell? ⟨X.heap.size,2,none⟩=some (.slice none 0 0)∧W.cell? ⟨X.heap.size,3,none⟩=some (.slice none 0 0)∧W.cell? ⟨X.heap.size,4,none⟩=some (.int .i64 0)∧W.cell? ⟨X.heap.size,5,none⟩=some (.int .i64 0)∧W.cell? ⟨X.heap.size,6,none⟩=some (.int .i64 op2)∧W.cell? ⟨X.heap.size,7,none⟩=some (.slice none 0 0))∧(∀ o,W.frozen? ⟨X.heap.size,o,none⟩=false)∧Below X.heap.size X W∧X.heap.size < W.heap.size):=by
    intro W hW
    subst hW
    exact ⟨of8' (box_nw _ _),fun o=>frozen_free (box_nw _ _),(Below.refl _ _).alloc (Nat.le_refl _) _,by simp⟩
  have HST:=hide start
  clear start
  have hXp:=hXs
  rw [hXp] at HST
  cases neg
  · clear ho34
    simp only [Bool.false_eq_true,if_false] at hop
    subst hop
    go_enter Try.func24,Try.ntmps24
    go_wp2
    go_loopw [6] (fun i wr=>∃ (k:Nat) (qm:Option Addr) (cm:Nat) (us:List Nv),k≤kids.length∧i=.int .i64 k∧us.length=k∧OwnK encV 28 8 ((w.heap.size + 2) + 1) wr qm cm us∧Off2 w0.heap.size (w.heap.size + 2) (InAll (downL kids false) us) (w.heap.size + 2) (Value.slice qm k cm).ownBlock wr∧(wr.cell? ⟨(w.heap.size + 2),0,none⟩=some (.int .i64 0)∧wr.cell? ⟨(w.heap.size + 2),1,none⟩=some (.string ⟨#[]⟩)∧wr.cell? ⟨(w.heap.size + 2),2,none⟩=some (.slice none 0 0)∧wr.cell? ⟨(w.heap.size + 2),3,none⟩=some (.slice none 0 0)∧wr.cell? ⟨(w.heap.size + 2),4,none⟩=some (.int .i64 0)∧wr.cell? ⟨(w.heap.size + 2),5,none⟩=some (.int .i64 0)∧wr.cell? ⟨(w.heap.size + 2),6,none⟩=some (.int .i64 op)∧wr.cell? ⟨(w.heap.size + 2),7,none⟩=some (.slice qm k cm))∧(∀ o,wr.frozen? ⟨(w.heap.size + 2),o,none⟩=false)∧Below (w.heap.size + 2) X wr∧(w.heap.size + 2) < wr.heap.size) (fun i _=>kids.length - (intOf i).toNat)
    case atStart =>
      obtain ⟨p3,p4,p5,p6⟩:=uh HST _ rfl
      exact ⟨0,none,0,[],by omega,rfl,rfl,OwnK.nil _ _,fun w' _ _ j v x h=>by simp at h,p3,p4,p5,p6⟩
    case round =>
      obtain ⟨k,qm,cm,us,hkk,rfl,hus,hown,hoff,⟨c0,c1,c2,c3x,c4,c5,c6,c7⟩,hcf,hbel,lpb⟩:=hrel
      have HO:=hide hown
      have HF:=hide hoff
      have HB:=hide hbel
      have HUS:=hide hus
      have bwr:Below X.heap.size X wr:=by rw [hXp];exact hbel
      have v7:=(bwr.cell (p:=⟨w.heap.size,7,none⟩) (by exact hz0)).trans x7
      by_cases hlt:k < kids.length
      · obtain ⟨x,hx,hxd⟩:=get_at hlt
        clear hxd
        obtain ⟨b,off,v,hq,hbb,hin,g0,g1,g2,g3,g4,g5,g6,g7⟩:=(uh HK).at hx
        subst hq
        have b0r:=below_sub (uh HB0) bwr
        have hxm:x ∈ kids:=List.mem_of_getElem? hx
        have hxw:=wtL_mem hxm
        have ki0:(0:Int)≤(k:Int):=by omega
        have ki1:(k:Int) < (kids.length:Int):=by omega
        have hw0:=(uh HB00).size
        have hwp0:w0.heap.size≤(w.heap.size + 2):=by omega
        have k0:=(b0r.cell (p:=⟨b,off + k * 8,none⟩) hbb).trans g0
        have k1:=(b0r.cell (p:=⟨b,off + k * 8 + 1,none⟩) hbb).trans g1
        have k2:=(b0r.cell (p:=⟨b,off + k * 8 + 2,none⟩) hbb).trans g2
        have k3:=(b0r.cell (p:=⟨b,off + k * 8 + 3,none⟩) hbb).trans g3
        have k4:=(b0r.cell (p:=⟨b,off + k * 8 + 4,none⟩) hbb).trans g4
        have k5:=(b0r.cell (p:=⟨b,off + k * 8 + 5,none⟩) hbb).trans g5
        have k6:=(b0r.cell (p:=⟨b,off + k * 8 + 6,none⟩) hbb).trans g6
        have k7:=(b0r.cell (p:=⟨b,off + k * 8 + 7,none⟩) hbb).trans g7
        have KS2:∀ W:World,(∀ o,W.cell? ⟨w.heap.size,o,none⟩=wr.cell? ⟨w.heap.size,o,none⟩)→(∀ o,W.cell? ⟨b,o,none⟩=wr.cell? ⟨b,o,none⟩)→(fun w'=>w'.cell? ⟨w.heap.size,7,none⟩=some (.slice (some ⟨b,off,none⟩) kids.length ck)∧w'.cell? ⟨b,off + k * 8,none⟩=some (.int .i64 v.kind)∧w'.cell? ⟨b,off + k * 8 + 1,none⟩=some (.string v.attr)∧w'.cell? ⟨b,off + k * 8 + 2,none⟩=some (.slice v.qi v.ni v.ci)∧w'.cell? ⟨b,off + k * 8 + 3,none⟩=some (.slice v.qw v.nw v.cw)∧w'.cell? ⟨b,off + k * 8 + 4,none⟩=some (.int .i64 v.lo)∧w'.cell? ⟨b,off + k * 8 + 5,none⟩=some (.int .i64 v.hi)∧w'.cell? ⟨b,off + k * 8 + 6,none⟩=some (.int .i64 v.op)∧w'.cell? ⟨b,off + k * 8 + 7,none⟩=some (.slice v.qk v.nk v.ck)) W:=fun W ha hb=>⟨(ha 7).trans v7,(hb _).trans k0,(hb _).trans k1,(hb _).trans k2,(hb _).trans k3,(hb _).trans k4,(hb _).trans k5,(hb _).trans k6,(hb _).trans k7⟩
        have EA0:∀ o,wr.drew.cell? ⟨w.heap.size,o,none⟩=wr.cell? ⟨w.heap.size,o,none⟩:=fun o=>rfl
        have EB0:∀ o,wr.drew.cell? ⟨b,o,none⟩=wr.cell? ⟨b,o,none⟩:=fun o=>rfl
        have hNd:=uh IH x hxm false v w0 wr.drew hin b0r.drew (uh HC x hxm) (by omega)
        simp only [Nv.val] at hNd
        have HDK:=hide (downL_at false hx)
        have HGE:=hide (hown.ownGe hus)
        have hkm:k + 1≤maxLen:=by unfold maxLen;omega
        have hkb:(k + 1) * 120≤140737488355328:=by omega
        have nn1:¬ w.heap.size=(w.heap.size + 2):=by omega
        have nn2:¬ b=(w.heap.size + 2):=by omega
        clear hin hx hxm hown hoff hbel hus g0 g1 g2 g3 g4 g5 g6 g7 b0r
        go_wp2
        refine wp_region_held_drew (S:=fun w'=>w'.cell? ⟨w.heap.size,7,none⟩=some (.slice (some ⟨b,off,none⟩) kids.length ck)∧w'.cell? ⟨b,off + k * 8,none⟩=some (.int .i64 v.kind)∧w'.cell? ⟨b,off + k * 8 + 1,none⟩=some (.string v.attr)∧w'.cell? ⟨b,off + k * 8 + 2,none⟩=some (.slice v.qi v.ni v.ci)∧w'.cell? ⟨b,off + k * 8 + 3,none⟩=some (.slice v.qw v.nw v.cw)∧w'.cell? ⟨b,off + k * 8 + 4,none⟩=some (.int .i64 v.lo)∧w'.cell? ⟨b,off + k * 8 + 5,none⟩=some (.int .i64 v.hi)∧w'.cell? ⟨b,off + k * 8 + 6,none⟩=some (.int .i64 v.op)∧w'.cell? ⟨b,off + k * 8 + 7,none⟩=some (.slice v.qk v.nk v.ck)) (by kernel_rfl) (KS2 _ EA0 EB0) (fun hHeld=>?_)
        refine wpAnyH_take (i:=0) (oi:=⟨some 40,.fieldAddr 28 (.tmp 5) 2,_,_,_,none⟩) (v:=?_) rfl (by kernel_rfl) (by kernel_rfl) (by kernel_rfl) (fun _ _ _ h=>h) (Or.inl ⟨by rfl, ?_⟩) (by assumption) ?_
        rotate_left
        · intro wq hSw
          go_simp
          with_reducible rfl
        simp only [Act.put,List.setIfInBounds_toArray,List.set_cons_zero,List.set_cons_succ]
        refine wpAnyH_take (i:=2) (oi:=⟨some 42,.fieldAddr 28 (.tmp 2) 2,_,_,_,none⟩) (v:=?_) rfl (by kernel_rfl) (by kernel_rfl) (by kernel_rfl) (fun _ _ _ h=>h) (Or.inl ⟨by rfl, ?_⟩) (by assumption) ?_
        rotate_left
        · intro wq hSw
          go_simp
          with_reducible rfl
        simp only [Act.put,List.setIfInBounds_toArray,List.set_cons_zero,List.set_cons_succ]
        refine wpAnyH_take (i:=3) (oi:=⟨some 43,.load 26 (.tmp 42),_,_,_,none⟩) (v:=?_) rfl (by kernel_rfl) (by kernel_rfl) (by kernel_rfl) (fun _ _ _ h=>h) (Or.inl ⟨by rfl, ?_⟩) (by assumption) ?_
        rotate_left
        · intro wq hSw
          go_simp
          with_reducible rfl
        simp only [Act.put,List.setIfInBounds_toArray,List.set_cons_zero,List.set_cons_succ]
        refine wpAnyH_take (i:=4) (oi:=⟨some 44,.move (.tmp 6),_,_,_,none⟩) (v:=?_) rfl (by kernel_rfl) (by kernel_rfl) (by kernel_rfl) (fun _ _ _ h=>h) (Or.inl ⟨by rfl, ?_⟩) (by assumption) ?_
        rotate_left
        · intro wq hSw
          go_simp
          with_reducible rfl
        simp only [Act.put,List.setIfInBounds_toArray,List.set_cons_zero,List.set_cons_succ]
        refine wpAnyH_take (i:=5) (oi:=⟨some 45,.indexAddr 26 (.tmp 43) (.tmp 44),_,_,_,none⟩) (v:=?_) rfl (by kernel_rfl) (by kernel_rfl) (by kernel_rfl) (fun _ _ _ h=>h) (Or.inl ⟨by rfl, ?_⟩) (by assumption) ?_
        rotate_left
        · intro wq hSw
          go_simp
          with_reducible rfl
        simp only [Act.put,List.setIfInBounds_toArray,List.set_cons_zero,List.set_cons_succ]
        refine wpAnyH_take (i:=6) (oi:=⟨some 46,.load 28 (.tmp 45),_,_,_,none⟩) (v:=?_) rfl (by kernel_rfl) (by kernel_rfl) (by kernel_rfl) (fun _ _ _ h=>h) (Or.inl ⟨by rfl, ?_⟩) (by assumption) ?_
        rotate_left
        · intro wq hSw
          go_simp
          with_reducible rfl
        simp only [Act.put,List.setIfInBounds_toArray,List.set_cons_zero,List.set_cons_succ]
        refine wpAnyH_take (i:=7) (oi:=⟨some 47,.move (.tmp 1),_,_,_,none⟩) (v:=?_) rfl (by kernel_rfl) (by kernel_rfl) (by kernel_rfl) (fun _ _ _ h=>h) (Or.inl ⟨by rfl, ?_⟩) (by assumption) ?_
        rotate_left
        · intro wq hSw
          go_simp
          with_reducible rfl
        simp only [Act.put,List.setIfInBounds_toArray,List.set_cons_zero,List.set_cons_succ]
        refine wpAnyH_ready (rs:=[1,8]) (by kernel_rfl) (by simp) ?_
        refine AllReadyH.cons (o:=⟨some 41,.load 26 (.tmp 40),_,_,_,none⟩) rfl (fun K hK=>?_) ?_
        · go_simp
          refine hK.out _ _ (KS2 _ EA0 EB0) (fun hHeld=>?_)
          clear hK K
          refine wpAnyH_ready (rs:=[8]) (by kernel_rfl) (by simp) ?_
          refine AllReadyH.cons (o:=⟨some 48,.call { callee:=.value (.func 24),args:=#[.tmp 46,.tmp 47],argTypes:=#[28,4] },_,_,_,none⟩) rfl (fun K hK=>?_) ?_
          · go_simp
            refine hNd.mono ?_
            rintro e w2 ⟨⟨u,rfl,hu⟩,hb2⟩
            simp only
            have R3:Below wr.heap.size wr w2:=below_undrewM hb2
            have s2:=R3.size
            have EA2:∀ o,w2.cell? ⟨w.heap.size,o,none⟩=wr.cell? ⟨w.heap.size,o,none⟩:=fun o=>R3.cell (p:=⟨w.heap.size,o,none⟩) (by simp only;omega)
            have EB2:∀ o,w2.cell? ⟨b,o,none⟩=wr.cell? ⟨b,o,none⟩:=fun o=>R3.cell (p:=⟨b,o,none⟩) (by simp only;omega)
            have m7:w2.cell? ⟨(w.heap.size + 2),7,none⟩=some (.slice qm k cm):=(R3.cell (p:=⟨(w.heap.size + 2),7,none⟩) (by simp only;omega)).trans c7
            have lm2:(w.heap.size + 2) < w2.heap.size:=by omega
            have nm2:¬ (w.heap.size + 2)=w2.heap.size:=by omega
            have EA3:∀ o,(w2.alloc (.cells #[.int .i64 u.kind,.string u.attr,.slice u.qi u.ni u.ci,.slice u.qw u.nw u.cw,.int .i64 u.lo,.int .i64 u.hi,.int .i64 u.op,.slice u.qk u.nk u.ck] 28)).cell? ⟨w.heap.size,o,none⟩=wr.cell? ⟨w.heap.size,o,none⟩:=fun o=>(((Below.refl w2.heap.size w2).alloc (Nat.le_refl _) _).cell (p:=⟨w.heap.size,o,none⟩) (by simp only;omega)).trans (EA2 o)
            have EB3:∀ o,(w2.alloc (.cells #[.int .i64 u.kind,.string u.attr,.slice u.qi u.ni u.ci,.slice u.qw u.nw u.cw,.int .i64 u.lo,.int .i64 u.hi,.int .i64 u.op,.slice u.qk u.nk u.ck] 28)).cell? ⟨b,o,none⟩=wr.cell? ⟨b,o,none⟩:=fun o=>(((Below.refl w2.heap.size w2).alloc (Nat.le_refl _) _).cell (p:=⟨b,o,none⟩) (by simp only;omega)).trans (EB2 o)
            have HU:=hide hu
            clear hu hb2
            refine hK.out _ _ (KS2 _ EA2 EB2) (fun hHeld=>?_)
            clear hK K
            refine wpAnyH_ready (rs:=[9]) (by kernel_rfl) (by simp) ?_
            refine AllReadyH.cons (o:=⟨some 49,.buildSlice 26 1 #[(0,.tmp 48)],_,_,_,none⟩) rfl (fun K hK=>?_) ?_
            · go_simp
              refine hK.out _ _ (KS2 _ EA3 EB3) (fun hHeld=>?_)
              clear hK K
              refine wpAnyH_ready (rs:=[10]) (by kernel_rfl) (by simp) ?_
              refine AllReadyH.cons (o:=⟨some 50,.call { callee:=.builtin .append,args:=#[.tmp 41,.tmp 49],argTypes:=#[26,26] },_,_,_,none⟩) rfl (fun K hK=>?_) ?_
              · refine step_appG rowV (by rfl) (.tmp 41) (.tmp 49) (by rfl) ((w.heap.size + 2) + 1) qm cm us ⟨w2.heap.size,0,none⟩ 1 [u] k 1 (k + 1) (uh HUS) rfl rfl (by rfl) (by rfl) (((uh HO).below R3).below ((Below.refl _ _).alloc (Nat.le_refl _) _)) (node_src (box_nw _ _)) hkm hkb (by simp only [size_al];omega) ?_
                intro q3 c3 w3 ho3 hb3 hg3 hor3
                have s3:=hg3.size
                simp only [size_al] at s3
                have hEq:∀ bb,bb < wr.heap.size→bb≤(w.heap.size + 2)→w3.heap[bb]? = wr.heap[bb]?:=fun bb h1 h2=>(hg3.block bb (by simp only [size_al];omega) (fun e=>by have:=uh HGE _ e.symm;omega)).trans ((((Below.refl w2.heap.size w2).alloc (Nat.le_refl _) _).block bb (by omega)).trans (R3.block bb h1))
                have EA4:∀ o,w3.cell? ⟨w.heap.size,o,none⟩=wr.cell? ⟨w.heap.size,o,none⟩:=fun o=>World.cell?_of_block (w:=wr) (a:=⟨w.heap.size,o,none⟩) (hEq w.heap.size (by omega) (by omega))
                have EB4:∀ o,w3.cell? ⟨b,o,none⟩=wr.cell? ⟨b,o,none⟩:=fun o=>World.cell?_of_block (w:=wr) (a:=⟨b,o,none⟩) (hEq b (by omega) (by omega))
                have hp3:=hEq (w.heap.size + 2) lpb (Nat.le_refl _)
                have n7:w3.cell? ⟨(w.heap.size + 2),7,none⟩=some (.slice qm k cm):=(World.cell?_of_block (w:=wr) (a:=⟨(w.heap.size + 2),7,none⟩) hp3).trans c7
                have nf:∀ o,w3.frozen? ⟨(w.heap.size + 2),o,none⟩=false:=fun o=>(World.frozen?_of_block (w:=wr) (a:=⟨(w.heap.size + 2),o,none⟩) hp3).trans (hcf o)
                have HO3:=hide ho3
                have HG3:=hide hg3
                have HR3:=hide hor3
                have HP3:=hide hp3
                clear ho3 hb3 hg3 hor3 hp3 hEq
                refine hK.out _ _ (KS2 _ EA4 EB4) (fun hHeld=>?_)
                clear hK K
                refine wpAnyH_take (i:=11) (oi:=⟨some 51,.fieldAddr 28 (.tmp 5) 2,_,_,_,none⟩) (v:=?_) rfl (by kernel_rfl) (by kernel_rfl) (by kernel_rfl) (fun _ _ _ h=>h) (Or.inl ⟨by rfl, ?_⟩) (by assumption) ?_
                rotate_left
                · intro wq hSw
                  go_simp
                  with_reducible rfl
                simp only [Act.put,List.setIfInBounds_toArray,List.set_cons_zero,List.set_cons_succ]
                refine wpAnyH_ready (rs:=[12]) (by kernel_rfl) (by simp) ?_
                refine AllReadyH.cons (o:=⟨none,.store 26 (.tmp 51) (.tmp 50),_,_,_,none⟩) rfl (fun K hK=>?_) ?_
                · go_simp
                  refine hK.out _ _ (KS2 _ (fun o=>(set_other _ (by omega) o 7 _).trans (EA4 o)) (fun o=>(set_other _ (by omega) o 7 _).trans (EB4 o))) (fun hHeld=>?_)
                  clear hK K
                  refine wpAnyH_done (by kernel_rfl) ?_ _
                  have P4:=hide (rdown_round (uh HB) R3 (uh HO) (uh HF) (uh HU) (uh HDK) (uh HUS) (uh HG3) (uh HR3) (uh HO3) (uh HP3) lpb n7 hwp0 (Nat.le_refl _))
                  have hl4:(us ++ [u]).length=k + 1:=by rw [List.length_append,uh HUS];rfl
                  have K0:=hide (show _∧_∧_∧_∧_∧_∧_ from ⟨c0,c1,c2,c3x,c4,c5,c6⟩)
                  go_wp2
                  go_roundw
                  case rel =>
                    obtain ⟨p1,p2,p3,p4,p5,p6,p7⟩:=uh P4
                    obtain ⟨c0,c1,c2,c3x,c4,c5,c6⟩:=uh K0
                    exact ⟨k + 1,q3,c3,us ++ [u],by omega,by go_num,hl4,p1,p2,⟨(p3 0 (by omega)).trans c0,(p3 1 (by omega)).trans c1,(p3 2 (by omega)).trans c2,(p3 3 (by omega)).trans c3x,(p3 4 (by omega)).trans c4,(p3 5 (by omega)).trans c5,(p3 6 (by omega)).trans c6,p4⟩,fun o=>(p5 o).trans (hcf o),p6,p7⟩
                  case measure=>simp [intOf];omega
                exact AllReadyH.nil
              exact AllReadyH.nil
            exact AllReadyH.nil
          exact AllReadyH.nil
        refine AllReadyH.cons (o:=⟨some 48,.call { callee:=.value (.func 24),args:=#[.tmp 46,.tmp 47],argTypes:=#[28,4] },_,_,_,none⟩) rfl (fun K hK=>?_) ?_
        · go_simp
          refine hNd.mono ?_
          rintro e w2 ⟨⟨u,rfl,hu⟩,hb2⟩
          simp only
          have R3:Below wr.heap.size wr w2:=below_undrewM hb2
          have s2:=R3.size
          have EA2:∀ o,w2.cell? ⟨w.heap.size,o,none⟩=wr.cell? ⟨w.heap.size,o,none⟩:=fun o=>R3.cell (p:=⟨w.heap.size,o,none⟩) (by simp only;omega)
          have EB2:∀ o,w2.cell? ⟨b,o,none⟩=wr.cell? ⟨b,o,none⟩:=fun o=>R3.cell (p:=⟨b,o,none⟩) (by simp only;omega)
          have m7:w2.cell? ⟨(w.heap.size + 2),7,none⟩=some (.slice qm k cm):=(R3.cell (p:=⟨(w.heap.size + 2),7,none⟩) (by simp only;omega)).trans c7
          have lm2:(w.heap.size + 2) < w2.heap.size:=by omega
          have nm2:¬ (w.heap.size + 2)=w2.heap.size:=by omega
          have EA3:∀ o,(w2.alloc (.cells #[.int .i64 u.kind,.string u.attr,.slice u.qi u.ni u.ci,.slice u.qw u.nw u.cw,.int .i64 u.lo,.int .i64 u.hi,.int .i64 u.op,.slice u.qk u.nk u.ck] 28)).cell? ⟨w.heap.size,o,none⟩=wr.cell? ⟨w.heap.size,o,none⟩:=fun o=>(((Below.refl w2.heap.size w2).alloc (Nat.le_refl _) _).cell (p:=⟨w.heap.size,o,none⟩) (by simp only;omega)).trans (EA2 o)
          have EB3:∀ o,(w2.alloc (.cells #[.int .i64 u.kind,.string u.attr,.slice u.qi u.ni u.ci,.slice u.qw u.nw u.cw,.int .i64 u.lo,.int .i64 u.hi,.int .i64 u.op,.slice u.qk u.nk u.ck] 28)).cell? ⟨b,o,none⟩=wr.cell? ⟨b,o,none⟩:=fun o=>(((Below.refl w2.heap.size w2).alloc (Nat.le_refl _) _).cell (p:=⟨b,o,none⟩) (by simp only;omega)).trans (EB2 o)
          have HU:=hide hu
          clear hu hb2
          refine hK.out _ _ (KS2 _ EA2 EB2) (fun hHeld=>?_)
          clear hK K
          refine wpAnyH_ready (rs:=[1,9]) (by kernel_rfl) (by simp) ?_
          refine AllReadyH.cons (o:=⟨some 41,.load 26 (.tmp 40),_,_,_,none⟩) rfl (fun K hK=>?_) ?_
          · go_simp
            refine hK.out _ _ (KS2 _ EA2 EB2) (fun hHeld=>?_)
            clear hK K
            refine wpAnyH_ready (rs:=[9]) (by kernel_rfl) (by simp) ?_
            refine AllReadyH.cons (o:=⟨some 49,.buildSlice 26 1 #[(0,.tmp 48)],_,_,_,none⟩) rfl (fun K hK=>?_) ?_
            · go_simp
              refine hK.out _ _ (KS2 _ EA3 EB3) (fun hHeld=>?_)
              clear hK K
              refine wpAnyH_ready (rs:=[10]) (by kernel_rfl) (by simp) ?_
              refine AllReadyH.cons (o:=⟨some 50,.call { callee:=.builtin .append,args:=#[.tmp 41,.tmp 49],argTypes:=#[26,26] },_,_,_,none⟩) rfl (fun K hK=>?_) ?_
              · refine step_appG rowV (by rfl) (.tmp 41) (.tmp 49) (by rfl) ((w.heap.size + 2) + 1) qm cm us ⟨w2.heap.size,0,none⟩ 1 [u] k 1 (k + 1) (uh HUS) rfl rfl (by rfl) (by rfl) (((uh HO).below R3).below ((Below.refl _ _).alloc (Nat.le_refl _) _)) (node_src (box_nw _ _)) hkm hkb (by simp only [size_al];omega) ?_
                intro q3 c3 w3 ho3 hb3 hg3 hor3
                have s3:=hg3.size
                simp only [size_al] at s3
                have hEq:∀ bb,bb < wr.heap.size→bb≤(w.heap.size + 2)→w3.heap[bb]? = wr.heap[bb]?:=fun bb h1 h2=>(hg3.block bb (by simp only [size_al];omega) (fun e=>by have:=uh HGE _ e.symm;omega)).trans ((((Below.refl w2.heap.size w2).alloc (Nat.le_refl _) _).block bb (by omega)).trans (R3.block bb h1))
                have EA4:∀ o,w3.cell? ⟨w.heap.size,o,none⟩=wr.cell? ⟨w.heap.size,o,none⟩:=fun o=>World.cell?_of_block (w:=wr) (a:=⟨w.heap.size,o,none⟩) (hEq w.heap.size (by omega) (by omega))
                have EB4:∀ o,w3.cell? ⟨b,o,none⟩=wr.cell? ⟨b,o,none⟩:=fun o=>World.cell?_of_block (w:=wr) (a:=⟨b,o,none⟩) (hEq b (by omega) (by omega))
                have hp3:=hEq (w.heap.size + 2) lpb (Nat.le_refl _)
                have n7:w3.cell? ⟨(w.heap.size + 2),7,none⟩=some (.slice qm k cm):=(World.cell?_of_block (w:=wr) (a:=⟨(w.heap.size + 2),7,none⟩) hp3).trans c7
                have nf:∀ o,w3.frozen? ⟨(w.heap.size + 2),o,none⟩=false:=fun o=>(World.frozen?_of_block (w:=wr) (a:=⟨(w.heap.size + 2),o,none⟩) hp3).trans (hcf o)
                have HO3:=hide ho3
                have HG3:=hide hg3
                have HR3:=hide hor3
                have HP3:=hide hp3
                clear ho3 hb3 hg3 hor3 hp3 hEq
                refine hK.out _ _ (KS2 _ EA4 EB4) (fun hHeld=>?_)
                clear hK K
                refine wpAnyH_take (i:=11) (oi:=⟨some 51,.fieldAddr 28 (.tmp 5) 2,_,_,_,none⟩) (v:=?_) rfl (by kernel_rfl) (by kernel_rfl) (by kernel_rfl) (fun _ _ _ h=>h) (Or.inl ⟨by rfl, ?_⟩) (by assumption) ?_
                rotate_left
                · intro wq hSw
                  go_simp
                  with_reducible rfl
                simp only [Act.put,List.setIfInBounds_toArray,List.set_cons_zero,List.set_cons_succ]
                refine wpAnyH_ready (rs:=[12]) (by kernel_rfl) (by simp) ?_
                refine AllReadyH.cons (o:=⟨none,.store 26 (.tmp 51) (.tmp 50),_,_,_,none⟩) rfl (fun K hK=>?_) ?_
                · go_simp
                  refine hK.out _ _ (KS2 _ (fun o=>(set_other _ (by omega) o 7 _).trans (EA4 o)) (fun o=>(set_other _ (by omega) o 7 _).trans (EB4 o))) (fun hHeld=>?_)
                  clear hK K
                  refine wpAnyH_done (by kernel_rfl) ?_ _
                  have P4:=hide (rdown_round (uh HB) R3 (uh HO) (uh HF) (uh HU) (uh HDK) (uh HUS) (uh HG3) (uh HR3) (uh HO3) (uh HP3) lpb n7 hwp0 (Nat.le_refl _))
                  have hl4:(us ++ [u]).length=k + 1:=by rw [List.length_append,uh HUS];rfl
                  have K0:=hide (show _∧_∧_∧_∧_∧_∧_ from ⟨c0,c1,c2,c3x,c4,c5,c6⟩)
                  go_wp2
                  go_roundw
                  case rel =>
                    obtain ⟨p1,p2,p3,p4,p5,p6,p7⟩:=uh P4
                    obtain ⟨c0,c1,c2,c3x,c4,c5,c6⟩:=uh K0
                    exact ⟨k + 1,q3,c3,us ++ [u],by omega,by go_num,hl4,p1,p2,⟨(p3 0 (by omega)).trans c0,(p3 1 (by omega)).trans c1,(p3 2 (by omega)).trans c2,(p3 3 (by omega)).trans c3x,(p3 4 (by omega)).trans c4,(p3 5 (by omega)).trans c5,(p3 6 (by omega)).trans c6,p4⟩,fun o=>(p5 o).trans (hcf o),p6,p7⟩
                  case measure=>simp [intOf];omega
                exact AllReadyH.nil
              exact AllReadyH.nil
            exact AllReadyH.nil
          refine AllReadyH.cons (o:=⟨some 49,.buildSlice 26 1 #[(0,.tmp 48)],_,_,_,none⟩) rfl (fun K hK=>?_) ?_
          · go_simp
            refine hK.out _ _ (KS2 _ EA3 EB3) (fun hHeld=>?_)
            clear hK K
            refine wpAnyH_ready (rs:=[1]) (by kernel_rfl) (by simp) ?_
            refine AllReadyH.cons (o:=⟨some 41,.load 26 (.tmp 40),_,_,_,none⟩) rfl (fun K hK=>?_) ?_
            · go_simp
              refine hK.out _ _ (KS2 _ EA3 EB3) (fun hHeld=>?_)
              clear hK K
              refine wpAnyH_ready (rs:=[10]) (by kernel_rfl) (by simp) ?_
              refine AllReadyH.cons (o:=⟨some 50,.call { callee:=.builtin .append,args:=#[.tmp 41,.tmp 49],argTypes:=#[26,26] },_,_,_,none⟩) rfl (fun K hK=>?_) ?_
              · refine step_appG rowV (by rfl) (.tmp 41) (.tmp 49) (by rfl) ((w.heap.size + 2) + 1) qm cm us ⟨w2.heap.size,0,none⟩ 1 [u] k 1 (k + 1) (uh HUS) rfl rfl (by rfl) (by rfl) (((uh HO).below R3).below ((Below.refl _ _).alloc (Nat.le_refl _) _)) (node_src (box_nw _ _)) hkm hkb (by simp only [size_al];omega) ?_
                intro q3 c3 w3 ho3 hb3 hg3 hor3
                have s3:=hg3.size
                simp only [size_al] at s3
                have hEq:∀ bb,bb < wr.heap.size→bb≤(w.heap.size + 2)→w3.heap[bb]? = wr.heap[bb]?:=fun bb h1 h2=>(hg3.block bb (by simp only [size_al];omega) (fun e=>by have:=uh HGE _ e.symm;omega)).trans ((((Below.refl w2.heap.size w2).alloc (Nat.le_refl _) _).block bb (by omega)).trans (R3.block bb h1))
                have EA4:∀ o,w3.cell? ⟨w.heap.size,o,none⟩=wr.cell? ⟨w.heap.size,o,none⟩:=fun o=>World.cell?_of_block (w:=wr) (a:=⟨w.heap.size,o,none⟩) (hEq w.heap.size (by omega) (by omega))
                have EB4:∀ o,w3.cell? ⟨b,o,none⟩=wr.cell? ⟨b,o,none⟩:=fun o=>World.cell?_of_block (w:=wr) (a:=⟨b,o,none⟩) (hEq b (by omega) (by omega))
                have hp3:=hEq (w.heap.size + 2) lpb (Nat.le_refl _)
                have n7:w3.cell? ⟨(w.heap.size + 2),7,none⟩=some (.slice qm k cm):=(World.cell?_of_block (w:=wr) (a:=⟨(w.heap.size + 2),7,none⟩) hp3).trans c7
                have nf:∀ o,w3.frozen? ⟨(w.heap.size + 2),o,none⟩=false:=fun o=>(World.frozen?_of_block (w:=wr) (a:=⟨(w.heap.size + 2),o,none⟩) hp3).trans (hcf o)
                have HO3:=hide ho3
                have HG3:=hide hg3
                have HR3:=hide hor3
                have HP3:=hide hp3
                clear ho3 hb3 hg3 hor3 hp3 hEq
                refine hK.out _ _ (KS2 _ EA4 EB4) (fun hHeld=>?_)
                clear hK K
                refine wpAnyH_take (i:=11) (oi:=⟨some 51,.fieldAddr 28 (.tmp 5) 2,_,_,_,none⟩) (v:=?_) rfl (by kernel_rfl) (by kernel_rfl) (by kernel_rfl) (fun _ _ _ h=>h) (Or.inl ⟨by rfl, ?_⟩) (by assumption) ?_
                rotate_left
                · intro wq hSw
                  go_simp
                  with_reducible rfl
                simp only [Act.put,List.setIfInBounds_toArray,List.set_cons_zero,List.set_cons_succ]
                refine wpAnyH_ready (rs:=[12]) (by kernel_rfl) (by simp) ?_
                refine AllReadyH.cons (o:=⟨none,.store 26 (.tmp 51) (.tmp 50),_,_,_,none⟩) rfl (fun K hK=>?_) ?_
                · go_simp
                  refine hK.out _ _ (KS2 _ (fun o=>(set_other _ (by omega) o 7 _).trans (EA4 o)) (fun o=>(set_other _ (by omega) o 7 _).trans (EB4 o))) (fun hHeld=>?_)
                  clear hK K
                  refine wpAnyH_done (by kernel_rfl) ?_ _
                  have P4:=hide (rdown_round (uh HB) R3 (uh HO) (uh HF) (uh HU) (uh HDK) (uh HUS) (uh HG3) (uh HR3) (uh HO3) (uh HP3) lpb n7 hwp0 (Nat.le_refl _))
                  have hl4:(us ++ [u]).length=k + 1:=by rw [List.length_append,uh HUS];rfl
                  have K0:=hide (show _∧_∧_∧_∧_∧_∧_ from ⟨c0,c1,c2,c3x,c4,c5,c6⟩)
                  go_wp2
                  go_roundw
                  case rel =>
                    obtain ⟨p1,p2,p3,p4,p5,p6,p7⟩:=uh P4
                    obtain ⟨c0,c1,c2,c3x,c4,c5,c6⟩:=uh K0
                    exact ⟨k + 1,q3,c3,us ++ [u],by omega,by go_num,hl4,p1,p2,⟨(p3 0 (by omega)).trans c0,(p3 1 (by omega)).trans c1,(p3 2 (by omega)).trans c2,(p3 3 (by omega)).trans c3x,(p3 4 (by omega)).trans c4,(p3 5 (by omega)).trans c5,(p3 6 (by omega)).trans c6,p4⟩,fun o=>(p5 o).trans (hcf o),p6,p7⟩
                  case measure=>simp [intOf];omega
                exact AllReadyH.nil
              exact AllReadyH.nil
            exact AllReadyH.nil
          exact AllReadyH.nil
        exact AllReadyH.nil
      · have hkl:k=kids.length:=by omega
        subst hkl
        have ki1:¬ (kids.length:Int) < (kids.length:Int):=by omega
        have r0:=(bwr.cell (p:=⟨w.heap.size + 1,0,none⟩) (by exact hz1)).trans y0
        have r1:=(bwr.cell (p:=⟨w.heap.size + 1,1,none⟩) (by exact hz1)).trans y1
        have r2:=(bwr.cell (p:=⟨w.heap.size + 1,2,none⟩) (by exact hz1)).trans y2
        have r3:=(bwr.cell (p:=⟨w.heap.size + 1,3,none⟩) (by exact hz1)).trans y3
        have r4:=(bwr.cell (p:=⟨w.heap.size + 1,4,none⟩) (by exact hz1)).trans y4
        have r5:=(bwr.cell (p:=⟨w.heap.size + 1,5,none⟩) (by exact hz1)).trans y5
        have r6:=(bwr.cell (p:=⟨w.heap.size + 1,6,none⟩) (by exact hz1)).trans y6
        have r7:=(bwr.cell (p:=⟨w.heap.size + 1,7,none⟩) (by exact hz1)).trans y7
        have rf:∀ o,wr.frozen? ⟨w.heap.size + 1,o,none⟩=false:=fun o=>(bwr.frozen (by exact hz1)).trans (yf o)
        have rz:w.heap.size + 1 < wr.heap.size:=by omega
        have BF:=hide (set8_below (g:=w.heap.size + 1) (below_sub (uh HWX) bwr) (Nat.le_succ _) (.int .i64 0) (.string ⟨#[]⟩) (.slice none 0 0) (.slice none 0 0) (.int .i64 0) (.int .i64 0) (.int .i64 op) (.slice qm kids.length cm))
        have NF:=hide (rdown_fin (op:=op) (w:=w) hown hoff (by rw [downL_len];exact hus) (downL_len kids false) (uh HB00).size (Nat.le_refl _) (.int .i64 0) (.string ⟨#[]⟩) (.slice none 0 0) (.slice none 0 0) (.int .i64 0) (.int .i64 0) (.int .i64 op) (.slice qm kids.length cm))
        clear hown hoff hbel bwr hus x0 x1 x2 x3 x4 x5 x6 x7 y0 y1 y2 y3 y4 y5 y6 y7
        go_wp2
        refine bodyPost_ret (v:=.agg #[.int .i64 0,.string ⟨#[]⟩,.slice none 0 0,.slice none 0 0,.int .i64 0,.int .i64 0,.int .i64 op,.slice qm kids.length cm]) (by simp [results,Try.results24,go_sem, *]) rfl ⟨⟨⟨0,⟨#[]⟩,none,0,0,none,0,0,0,0,op,qm,kids.length,cm⟩,rfl,uh NF⟩,uh BF⟩
  · simp only [if_true] at hop
    rcases ho34 with rfl | rfl
    · obtain rfl:op2=4:=by omega
      clear wop e1 e2 hop
      go_enter Try.func24,Try.ntmps24
      go_wp2
      go_loopw [6] (fun i wr=>∃ (k:Nat) (qm:Option Addr) (cm:Nat) (us:List Nv),k≤kids.length∧i=.int .i64 k∧us.length=k∧OwnK encV 28 8 ((w.heap.size + 2) + 1) wr qm cm us∧Off2 w0.heap.size (w.heap.size + 2) (InAll (downL kids true) us) (w.heap.size + 2) (Value.slice qm k cm).ownBlock wr∧(wr.cell? ⟨(w.heap.size + 2),0,none⟩=some (.int .i64 0)∧wr.cell? ⟨(w.heap.size + 2),1,none⟩=some (.string ⟨#[]⟩)∧wr.cell? ⟨(w.heap.size + 2),2,none⟩=some (.slice none 0 0)∧wr.cell? ⟨(w.heap.size + 2),3,none⟩=some (.slice none 0 0)∧wr.cell? ⟨(w.heap.size + 2),4,none⟩=some (.int .i64 0)∧wr.cell? ⟨(w.heap.size + 2),5,none⟩=some (.int .i64 0)∧wr.cell? ⟨(w.heap.size + 2),6,none⟩=some (.int .i64 4)∧wr.cell? ⟨(w.heap.size + 2),7,none⟩=some (.slice qm k cm))∧(∀ o,wr.frozen? ⟨(w.heap.size + 2),o,none⟩=false)∧Below (w.heap.size + 2) X wr∧(w.heap.size + 2) < wr.heap.size) (fun i _=>kids.length - (intOf i).toNat)
      case atStart =>
        obtain ⟨p3,p4,p5,p6⟩:=uh HST _ rfl
        exact ⟨0,none,0,[],by omega,rfl,rfl,OwnK.nil _ _,fun w' _ _ j v x h=>by simp at h,p3,p4,p5,p6⟩
      case round =>
        obtain ⟨k,qm,cm,us,hkk,rfl,hus,hown,hoff,⟨c0,c1,c2,c3x,c4,c5,c6,c7⟩,hcf,hbel,lpb⟩:=hrel
        have HO:=hide hown
        have HF:=hide hoff
        have HB:=hide hbel
        have HUS:=hide hus
        have bwr:Below X.heap.size X wr:=by rw [hXp];exact hbel
        have v7:=(bwr.cell (p:=⟨w.heap.size,7,none⟩) (by exact hz0)).trans x7
        by_cases hlt:k < kids.length
        · obtain ⟨x,hx,hxd⟩:=get_at hlt
          clear hxd
          obtain ⟨b,off,v,hq,hbb,hin,g0,g1,g2,g3,g4,g5,g6,g7⟩:=(uh HK).at hx
          subst hq
          have b0r:=below_sub (uh HB0) bwr
          have hxm:x ∈ kids:=List.mem_of_getElem? hx
          have hxw:=wtL_mem hxm
          have ki0:(0:Int)≤(k:Int):=by omega
          have ki1:(k:Int) < (kids.length:Int):=by omega
          have hw0:=(uh HB00).size
          have hwp0:w0.heap.size≤(w.heap.size + 2):=by omega
          have k0:=(b0r.cell (p:=⟨b,off + k * 8,none⟩) hbb).trans g0
          have k1:=(b0r.cell (p:=⟨b,off + k * 8 + 1,none⟩) hbb).trans g1
          have k2:=(b0r.cell (p:=⟨b,off + k * 8 + 2,none⟩) hbb).trans g2
          have k3:=(b0r.cell (p:=⟨b,off + k * 8 + 3,none⟩) hbb).trans g3
          have k4:=(b0r.cell (p:=⟨b,off + k * 8 + 4,none⟩) hbb).trans g4
          have k5:=(b0r.cell (p:=⟨b,off + k * 8 + 5,none⟩) hbb).trans g5
          have k6:=(b0r.cell (p:=⟨b,off + k * 8 + 6,none⟩) hbb).trans g6
          have k7:=(b0r.cell (p:=⟨b,off + k * 8 + 7,none⟩) hbb).trans g7
          have KS2:∀ W:World,(∀ o,W.cell? ⟨w.heap.size,o,none⟩=wr.cell? ⟨w.heap.size,o,none⟩)→(∀ o,W.cell? ⟨b,o,none⟩=wr.cell? ⟨b,o,none⟩)→(fun w'=>w'.cell? ⟨w.heap.size,7,none⟩=some (.slice (some ⟨b,off,none⟩) kids.length ck)∧w'.cell? ⟨b,off + k * 8,none⟩=some (.int .i64 v.kind)∧w'.cell? ⟨b,off + k * 8 + 1,none⟩=some (.string v.attr)∧w'.cell? ⟨b,off + k * 8 + 2,none⟩=some (.slice v.qi v.ni v.ci)∧w'.cell? ⟨b,off + k * 8 + 3,none⟩=some (.slice v.qw v.nw v.cw)∧w'.cell? ⟨b,off + k * 8 + 4,none⟩=some (.int .i64 v.lo)∧w'.cell? ⟨b,off + k * 8 + 5,none⟩=some (.int .i64 v.hi)∧w'.cell? ⟨b,off + k * 8 + 6,none⟩=some (.int .i64 v.op)∧w'.cell? ⟨b,off + k * 8 + 7,none⟩=some (.slice v.qk v.nk v.ck)) W:=fun W ha hb=>⟨(ha 7).trans v7,(hb _).trans k0,(hb _).trans k1,(hb _).trans k2,(hb _).trans k3,(hb _).trans k4,(hb _).trans k5,(hb _).trans k6,(hb _).trans k7⟩
          have EA0:∀ o,wr.drew.cell? ⟨w.heap.size,o,none⟩=wr.cell? ⟨w.heap.size,o,none⟩:=fun o=>rfl
          have EB0:∀ o,wr.drew.cell? ⟨b,o,none⟩=wr.cell? ⟨b,o,none⟩:=fun o=>rfl
          have hNd:=uh IH x hxm true v w0 wr.drew hin b0r.drew (uh HC x hxm) (by omega)
          simp only [Nv.val] at hNd
          have HDK:=hide (downL_at true hx)
          have HGE:=hide (hown.ownGe hus)
          have hkm:k + 1≤maxLen:=by unfold maxLen;omega
          have hkb:(k + 1) * 120≤140737488355328:=by omega
          have nn1:¬ w.heap.size=(w.heap.size + 2):=by omega
          have nn2:¬ b=(w.heap.size + 2):=by omega
          clear hin hx hxm hown hoff hbel hus g0 g1 g2 g3 g4 g5 g6 g7 b0r
          go_wp2
          refine wp_region_held_drew (S:=fun w'=>w'.cell? ⟨w.heap.size,7,none⟩=some (.slice (some ⟨b,off,none⟩) kids.length ck)∧w'.cell? ⟨b,off + k * 8,none⟩=some (.int .i64 v.kind)∧w'.cell? ⟨b,off + k * 8 + 1,none⟩=some (.string v.attr)∧w'.cell? ⟨b,off + k * 8 + 2,none⟩=some (.slice v.qi v.ni v.ci)∧w'.cell? ⟨b,off + k * 8 + 3,none⟩=some (.slice v.qw v.nw v.cw)∧w'.cell? ⟨b,off + k * 8 + 4,none⟩=some (.int .i64 v.lo)∧w'.cell? ⟨b,off + k * 8 + 5,none⟩=some (.int .i64 v.hi)∧w'.cell? ⟨b,off + k * 8 + 6,none⟩=some (.int .i64 v.op)∧w'.cell? ⟨b,off + k * 8 + 7,none⟩=some (.slice v.qk v.nk v.ck)) (by kernel_rfl) (KS2 _ EA0 EB0) (fun hHeld=>?_)
          refine wpAnyH_take (i:=0) (oi:=⟨some 40,.fieldAddr 28 (.tmp 5) 2,_,_,_,none⟩) (v:=?_) rfl (by kernel_rfl) (by kernel_rfl) (by kernel_rfl) (fun _ _ _ h=>h) (Or.inl ⟨by rfl, ?_⟩) (by assumption) ?_
          rotate_left
          · intro wq hSw
            go_simp
            with_reducible rfl
          simp only [Act.put,List.setIfInBounds_toArray,List.set_cons_zero,List.set_cons_succ]
          refine wpAnyH_take (i:=2) (oi:=⟨some 42,.fieldAddr 28 (.tmp 2) 2,_,_,_,none⟩) (v:=?_) rfl (by kernel_rfl) (by kernel_rfl) (by kernel_rfl) (fun _ _ _ h=>h) (Or.inl ⟨by rfl, ?_⟩) (by assumption) ?_
          rotate_left
          · intro wq hSw
            go_simp
            with_reducible rfl
          simp only [Act.put,List.setIfInBounds_toArray,List.set_cons_zero,List.set_cons_succ]
          refine wpAnyH_take (i:=3) (oi:=⟨some 43,.load 26 (.tmp 42),_,_,_,none⟩) (v:=?_) rfl (by kernel_rfl) (by kernel_rfl) (by kernel_rfl) (fun _ _ _ h=>h) (Or.inl ⟨by rfl, ?_⟩) (by assumption) ?_
          rotate_left
          · intro wq hSw
            go_simp
            with_reducible rfl
          simp only [Act.put,List.setIfInBounds_toArray,List.set_cons_zero,List.set_cons_succ]
          refine wpAnyH_take (i:=4) (oi:=⟨some 44,.move (.tmp 6),_,_,_,none⟩) (v:=?_) rfl (by kernel_rfl) (by kernel_rfl) (by kernel_rfl) (fun _ _ _ h=>h) (Or.inl ⟨by rfl, ?_⟩) (by assumption) ?_
          rotate_left
          · intro wq hSw
            go_simp
            with_reducible rfl
          simp only [Act.put,List.setIfInBounds_toArray,List.set_cons_zero,List.set_cons_succ]
          refine wpAnyH_take (i:=5) (oi:=⟨some 45,.indexAddr 26 (.tmp 43) (.tmp 44),_,_,_,none⟩) (v:=?_) rfl (by kernel_rfl) (by kernel_rfl) (by kernel_rfl) (fun _ _ _ h=>h) (Or.inl ⟨by rfl, ?_⟩) (by assumption) ?_
          rotate_left
          · intro wq hSw
            go_simp
            with_reducible rfl
          simp only [Act.put,List.setIfInBounds_toArray,List.set_cons_zero,List.set_cons_succ]
          refine wpAnyH_take (i:=6) (oi:=⟨some 46,.load 28 (.tmp 45),_,_,_,none⟩) (v:=?_) rfl (by kernel_rfl) (by kernel_rfl) (by kernel_rfl) (fun _ _ _ h=>h) (Or.inl ⟨by rfl, ?_⟩) (by assumption) ?_
          rotate_left
          · intro wq hSw
            go_simp
            with_reducible rfl
          simp only [Act.put,List.setIfInBounds_toArray,List.set_cons_zero,List.set_cons_succ]
          refine wpAnyH_take (i:=7) (oi:=⟨some 47,.move (.tmp 1),_,_,_,none⟩) (v:=?_) rfl (by kernel_rfl) (by kernel_rfl) (by kernel_rfl) (fun _ _ _ h=>h) (Or.inl ⟨by rfl, ?_⟩) (by assumption) ?_
          rotate_left
          · intro wq hSw
            go_simp
            with_reducible rfl
          simp only [Act.put,List.setIfInBounds_toArray,List.set_cons_zero,List.set_cons_succ]
          refine wpAnyH_ready (rs:=[1,8]) (by kernel_rfl) (by simp) ?_
          refine AllReadyH.cons (o:=⟨some 41,.load 26 (.tmp 40),_,_,_,none⟩) rfl (fun K hK=>?_) ?_
          · go_simp
            refine hK.out _ _ (KS2 _ EA0 EB0) (fun hHeld=>?_)
            clear hK K
            refine wpAnyH_ready (rs:=[8]) (by kernel_rfl) (by simp) ?_
            refine AllReadyH.cons (o:=⟨some 48,.call { callee:=.value (.func 24),args:=#[.tmp 46,.tmp 47],argTypes:=#[28,4] },_,_,_,none⟩) rfl (fun K hK=>?_) ?_
            · go_simp
              refine hNd.mono ?_
              rintro e w2 ⟨⟨u,rfl,hu⟩,hb2⟩
              simp only
              have R3:Below wr.heap.size wr w2:=below_undrewM hb2
              have s2:=R3.size
              have EA2:∀ o,w2.cell? ⟨w.heap.size,o,none⟩=wr.cell? ⟨w.heap.size,o,none⟩:=fun o=>R3.cell (p:=⟨w.heap.size,o,none⟩) (by simp only;omega)
              have EB2:∀ o,w2.cell? ⟨b,o,none⟩=wr.cell? ⟨b,o,none⟩:=fun o=>R3.cell (p:=⟨b,o,none⟩) (by simp only;omega)
              have m7:w2.cell? ⟨(w.heap.size + 2),7,none⟩=some (.slice qm k cm):=(R3.cell (p:=⟨(w.heap.size + 2),7,none⟩) (by simp only;omega)).trans c7
              have lm2:(w.heap.size + 2) < w2.heap.size:=by omega
              have nm2:¬ (w.heap.size + 2)=w2.heap.size:=by omega
              have EA3:∀ o,(w2.alloc (.cells #[.int .i64 u.kind,.string u.attr,.slice u.qi u.ni u.ci,.slice u.qw u.nw u.cw,.int .i64 u.lo,.int .i64 u.hi,.int .i64 u.op,.slice u.qk u.nk u.ck] 28)).cell? ⟨w.heap.size,o,none⟩=wr.cell? ⟨w.heap.size,o,none⟩:=fun o=>(((Below.refl w2.heap.size w2).alloc (Nat.le_refl _) _).cell (p:=⟨w.heap.size,o,none⟩) (by simp only;omega)).trans (EA2 o)
              have EB3:∀ o,(w2.alloc (.cells #[.int .i64 u.kind,.string u.attr,.slice u.qi u.ni u.ci,.slice u.qw u.nw u.cw,.int .i64 u.lo,.int .i64 u.hi,.int .i64 u.op,.slice u.qk u.nk u.ck] 28)).cell? ⟨b,o,none⟩=wr.cell? ⟨b,o,none⟩:=fun o=>(((Below.refl w2.heap.size w2).alloc (Nat.le_refl _) _).cell (p:=⟨b,o,none⟩) (by simp only;omega)).trans (EB2 o)
              have HU:=hide hu
              clear hu hb2
              refine hK.out _ _ (KS2 _ EA2 EB2) (fun hHeld=>?_)
              clear hK K
              refine wpAnyH_ready (rs:=[9]) (by kernel_rfl) (by simp) ?_
              refine AllReadyH.cons (o:=⟨some 49,.buildSlice 26 1 #[(0,.tmp 48)],_,_,_,none⟩) rfl (fun K hK=>?_) ?_
              · go_simp
                refine hK.out _ _ (KS2 _ EA3 EB3) (fun hHeld=>?_)
                clear hK K
                refine wpAnyH_ready (rs:=[10]) (by kernel_rfl) (by simp) ?_
                refine AllReadyH.cons (o:=⟨some 50,.call { callee:=.builtin .append,args:=#[.tmp 41,.tmp 49],argTypes:=#[26,26] },_,_,_,none⟩) rfl (fun K hK=>?_) ?_
                · refine step_appG rowV (by rfl) (.tmp 41) (.tmp 49) (by rfl) ((w.heap.size + 2) + 1) qm cm us ⟨w2.heap.size,0,none⟩ 1 [u] k 1 (k + 1) (uh HUS) rfl rfl (by rfl) (by rfl) (((uh HO).below R3).below ((Below.refl _ _).alloc (Nat.le_refl _) _)) (node_src (box_nw _ _)) hkm hkb (by simp only [size_al];omega) ?_
                  intro q3 c3 w3 ho3 hb3 hg3 hor3
                  have s3:=hg3.size
                  simp only [size_al] at s3
                  have hEq:∀ bb,bb < wr.heap.size→bb≤(w.heap.size + 2)→w3.heap[bb]? = wr.heap[bb]?:=fun bb h1 h2=>(hg3.block bb (by simp only [size_al];omega) (fun e=>by have:=uh HGE _ e.symm;omega)).trans ((((Below.refl w2.heap.size w2).alloc (Nat.le_refl _) _).block bb (by omega)).trans (R3.block bb h1))
                  have EA4:∀ o,w3.cell? ⟨w.heap.size,o,none⟩=wr.cell? ⟨w.heap.size,o,none⟩:=fun o=>World.cell?_of_block (w:=wr) (a:=⟨w.heap.size,o,none⟩) (hEq w.heap.size (by omega) (by omega))
                  have EB4:∀ o,w3.cell? ⟨b,o,none⟩=wr.cell? ⟨b,o,none⟩:=fun o=>World.cell?_of_block (w:=wr) (a:=⟨b,o,none⟩) (hEq b (by omega) (by omega))
                  have hp3:=hEq (w.heap.size + 2) lpb (Nat.le_refl _)
                  have n7:w3.cell? ⟨(w.heap.size + 2),7,none⟩=some (.slice qm k cm):=(World.cell?_of_block (w:=wr) (a:=⟨(w.heap.size + 2),7,none⟩) hp3).trans c7
                  have nf:∀ o,w3.frozen? ⟨(w.heap.size + 2),o,none⟩=false:=fun o=>(World.frozen?_of_block (w:=wr) (a:=⟨(w.heap.size + 2),o,none⟩) hp3).trans (hcf o)
                  have HO3:=hide ho3
                  have HG3:=hide hg3
                  have HR3:=hide hor3
                  have HP3:=hide hp3
                  clear ho3 hb3 hg3 hor3 hp3 hEq
                  refine hK.out _ _ (KS2 _ EA4 EB4) (fun hHeld=>?_)
                  clear hK K
                  refine wpAnyH_take (i:=11) (oi:=⟨some 51,.fieldAddr 28 (.tmp 5) 2,_,_,_,none⟩) (v:=?_) rfl (by kernel_rfl) (by kernel_rfl) (by kernel_rfl) (fun _ _ _ h=>h) (Or.inl ⟨by rfl, ?_⟩) (by assumption) ?_
                  rotate_left
                  · intro wq hSw
                    go_simp
                    with_reducible rfl
                  simp only [Act.put,List.setIfInBounds_toArray,List.set_cons_zero,List.set_cons_succ]
                  refine wpAnyH_ready (rs:=[12]) (by kernel_rfl) (by simp) ?_
                  refine AllReadyH.cons (o:=⟨none,.store 26 (.tmp 51) (.tmp 50),_,_,_,none⟩) rfl (fun K hK=>?_) ?_
                  · go_simp
                    refine hK.out _ _ (KS2 _ (fun o=>(set_other _ (by omega) o 7 _).trans (EA4 o)) (fun o=>(set_other _ (by omega) o 7 _).trans (EB4 o))) (fun hHeld=>?_)
                    clear hK K
                    refine wpAnyH_done (by kernel_rfl) ?_ _
                    have P4:=hide (rdown_round (uh HB) R3 (uh HO) (uh HF) (uh HU) (uh HDK) (uh HUS) (uh HG3) (uh HR3) (uh HO3) (uh HP3) lpb n7 hwp0 (Nat.le_refl _))
                    have hl4:(us ++ [u]).length=k + 1:=by rw [List.length_append,uh HUS];rfl
                    have K0:=hide (show _∧_∧_∧_∧_∧_∧_ from ⟨c0,c1,c2,c3x,c4,c5,c6⟩)
                    go_wp2
                    go_roundw
                    case rel =>
                      obtain ⟨p1,p2,p3,p4,p5,p6,p7⟩:=uh P4
                      obtain ⟨c0,c1,c2,c3x,c4,c5,c6⟩:=uh K0
                      exact ⟨k + 1,q3,c3,us ++ [u],by omega,by go_num,hl4,p1,p2,⟨(p3 0 (by omega)).trans c0,(p3 1 (by omega)).trans c1,(p3 2 (by omega)).trans c2,(p3 3 (by omega)).trans c3x,(p3 4 (by omega)).trans c4,(p3 5 (by omega)).trans c5,(p3 6 (by omega)).trans c6,p4⟩,fun o=>(p5 o).trans (hcf o),p6,p7⟩
                    case measure=>simp [intOf];omega
                  exact AllReadyH.nil
                exact AllReadyH.nil
              exact AllReadyH.nil
            exact AllReadyH.nil
          refine AllReadyH.cons (o:=⟨some 48,.call { callee:=.value (.func 24),args:=#[.tmp 46,.tmp 47],argTypes:=#[28,4] },_,_,_,none⟩) rfl (fun K hK=>?_) ?_
          · go_simp
            refine hNd.mono ?_
            rintro e w2 ⟨⟨u,rfl,hu⟩,hb2⟩
            simp only
            have R3:Below wr.heap.size wr w2:=below_undrewM hb2
            have s2:=R3.size
            have EA2:∀ o,w2.cell? ⟨w.heap.size,o,none⟩=wr.cell? ⟨w.heap.size,o,none⟩:=fun o=>R3.cell (p:=⟨w.heap.size,o,none⟩) (by simp only;omega)
            have EB2:∀ o,w2.cell? ⟨b,o,none⟩=wr.cell? ⟨b,o,none⟩:=fun o=>R3.cell (p:=⟨b,o,none⟩) (by simp only;omega)
            have m7:w2.cell? ⟨(w.heap.size + 2),7,none⟩=some (.slice qm k cm):=(R3.cell (p:=⟨(w.heap.size + 2),7,none⟩) (by simp only;omega)).trans c7
            have lm2:(w.heap.size + 2) < w2.heap.size:=by omega
            have nm2:¬ (w.heap.size + 2)=w2.heap.size:=by omega
            have EA3:∀ o,(w2.alloc (.cells #[.int .i64 u.kind,.string u.attr,.slice u.qi u.ni u.ci,.slice u.qw u.nw u.cw,.int .i64 u.lo,.int .i64 u.hi,.int .i64 u.op,.slice u.qk u.nk u.ck] 28)).cell? ⟨w.heap.size,o,none⟩=wr.cell? ⟨w.heap.size,o,none⟩:=fun o=>(((Below.refl w2.heap.size w2).alloc (Nat.le_refl _) _).cell (p:=⟨w.heap.size,o,none⟩) (by simp only;omega)).trans (EA2 o)
            have EB3:∀ o,(w2.alloc (.cells #[.int .i64 u.kind,.string u.attr,.slice u.qi u.ni u.ci,.slice u.qw u.nw u.cw,.int .i64 u.lo,.int .i64 u.hi,.int .i64 u.op,.slice u.qk u.nk u.ck] 28)).cell? ⟨b,o,none⟩=wr.cell? ⟨b,o,none⟩:=fun o=>(((Below.refl w2.heap.size w2).alloc (Nat.le_refl _) _).cell (p:=⟨b,o,none⟩) (by simp only;omega)).trans (EB2 o)
            have HU:=hide hu
            clear hu hb2
            refine hK.out _ _ (KS2 _ EA2 EB2) (fun hHeld=>?_)
            clear hK K
            refine wpAnyH_ready (rs:=[1,9]) (by kernel_rfl) (by simp) ?_
            refine AllReadyH.cons (o:=⟨some 41,.load 26 (.tmp 40),_,_,_,none⟩) rfl (fun K hK=>?_) ?_
            · go_simp
              refine hK.out _ _ (KS2 _ EA2 EB2) (fun hHeld=>?_)
              clear hK K
              refine wpAnyH_ready (rs:=[9]) (by kernel_rfl) (by simp) ?_
              refine AllReadyH.cons (o:=⟨some 49,.buildSlice 26 1 #[(0,.tmp 48)],_,_,_,none⟩) rfl (fun K hK=>?_) ?_
              · go_simp
                refine hK.out _ _ (KS2 _ EA3 EB3) (fun hHeld=>?_)
                clear hK K
                refine wpAnyH_ready (rs:=[10]) (by kernel_rfl) (by simp) ?_
                refine AllReadyH.cons (o:=⟨some 50,.call { callee:=.builtin .append,args:=#[.tmp 41,.tmp 49],argTypes:=#[26,26] },_,_,_,none⟩) rfl (fun K hK=>?_) ?_
                · refine step_appG rowV (by rfl) (.tmp 41) (.tmp 49) (by rfl) ((w.heap.size + 2) + 1) qm cm us ⟨w2.heap.size,0,none⟩ 1 [u] k 1 (k + 1) (uh HUS) rfl rfl (by rfl) (by rfl) (((uh HO).below R3).below ((Below.refl _ _).alloc (Nat.le_refl _) _)) (node_src (box_nw _ _)) hkm hkb (by simp only [size_al];omega) ?_
                  intro q3 c3 w3 ho3 hb3 hg3 hor3
                  have s3:=hg3.size
                  simp only [size_al] at s3
                  have hEq:∀ bb,bb < wr.heap.size→bb≤(w.heap.size + 2)→w3.heap[bb]? = wr.heap[bb]?:=fun bb h1 h2=>(hg3.block bb (by simp only [size_al];omega) (fun e=>by have:=uh HGE _ e.symm;omega)).trans ((((Below.refl w2.heap.size w2).alloc (Nat.le_refl _) _).block bb (by omega)).trans (R3.block bb h1))
                  have EA4:∀ o,w3.cell? ⟨w.heap.size,o,none⟩=wr.cell? ⟨w.heap.size,o,none⟩:=fun o=>World.cell?_of_block (w:=wr) (a:=⟨w.heap.size,o,none⟩) (hEq w.heap.size (by omega) (by omega))
                  have EB4:∀ o,w3.cell? ⟨b,o,none⟩=wr.cell? ⟨b,o,none⟩:=fun o=>World.cell?_of_block (w:=wr) (a:=⟨b,o,none⟩) (hEq b (by omega) (by omega))
                  have hp3:=hEq (w.heap.size + 2) lpb (Nat.le_refl _)
                  have n7:w3.cell? ⟨(w.heap.size + 2),7,none⟩=some (.slice qm k cm):=(World.cell?_of_block (w:=wr) (a:=⟨(w.heap.size + 2),7,none⟩) hp3).trans c7
                  have nf:∀ o,w3.frozen? ⟨(w.heap.size + 2),o,none⟩=false:=fun o=>(World.frozen?_of_block (w:=wr) (a:=⟨(w.heap.size + 2),o,none⟩) hp3).trans (hcf o)
                  have HO3:=hide ho3
                  have HG3:=hide hg3
                  have HR3:=hide hor3
                  have HP3:=hide hp3
                  clear ho3 hb3 hg3 hor3 hp3 hEq
                  refine hK.out _ _ (KS2 _ EA4 EB4) (fun hHeld=>?_)
                  clear hK K
                  refine wpAnyH_take (i:=11) (oi:=⟨some 51,.fieldAddr 28 (.tmp 5) 2,_,_,_,none⟩) (v:=?_) rfl (by kernel_rfl) (by kernel_rfl) (by kernel_rfl) (fun _ _ _ h=>h) (Or.inl ⟨by rfl, ?_⟩) (by assumption) ?_
                  rotate_left
                  · intro wq hSw
                    go_simp
                    with_reducible rfl
                  simp only [Act.put,List.setIfInBounds_toArray,List.set_cons_zero,List.set_cons_succ]
                  refine wpAnyH_ready (rs:=[12]) (by kernel_rfl) (by simp) ?_
                  refine AllReadyH.cons (o:=⟨none,.store 26 (.tmp 51) (.tmp 50),_,_,_,none⟩) rfl (fun K hK=>?_) ?_
                  · go_simp
                    refine hK.out _ _ (KS2 _ (fun o=>(set_other _ (by omega) o 7 _).trans (EA4 o)) (fun o=>(set_other _ (by omega) o 7 _).trans (EB4 o))) (fun hHeld=>?_)
                    clear hK K
                    refine wpAnyH_done (by kernel_rfl) ?_ _
                    have P4:=hide (rdown_round (uh HB) R3 (uh HO) (uh HF) (uh HU) (uh HDK) (uh HUS) (uh HG3) (uh HR3) (uh HO3) (uh HP3) lpb n7 hwp0 (Nat.le_refl _))
                    have hl4:(us ++ [u]).length=k + 1:=by rw [List.length_append,uh HUS];rfl
                    have K0:=hide (show _∧_∧_∧_∧_∧_∧_ from ⟨c0,c1,c2,c3x,c4,c5,c6⟩)
                    go_wp2
                    go_roundw
                    case rel =>
                      obtain ⟨p1,p2,p3,p4,p5,p6,p7⟩:=uh P4
                      obtain ⟨c0,c1,c2,c3x,c4,c5,c6⟩:=uh K0
                      exact ⟨k + 1,q3,c3,us ++ [u],by omega,by go_num,hl4,p1,p2,⟨(p3 0 (by omega)).trans c0,(p3 1 (by omega)).trans c1,(p3 2 (by omega)).trans c2,(p3 3 (by omega)).trans c3x,(p3 4 (by omega)).trans c4,(p3 5 (by omega)).trans c5,(p3 6 (by omega)).trans c6,p4⟩,fun o=>(p5 o).trans (hcf o),p6,p7⟩
                    case measure=>simp [intOf];omega
                  exact AllReadyH.nil
                exact AllReadyH.nil
              exact AllReadyH.nil
            refine AllReadyH.cons (o:=⟨some 49,.buildSlice 26 1 #[(0,.tmp 48)],_,_,_,none⟩) rfl (fun K hK=>?_) ?_
            · go_simp
              refine hK.out _ _ (KS2 _ EA3 EB3) (fun hHeld=>?_)
              clear hK K
              refine wpAnyH_ready (rs:=[1]) (by kernel_rfl) (by simp) ?_
              refine AllReadyH.cons (o:=⟨some 41,.load 26 (.tmp 40),_,_,_,none⟩) rfl (fun K hK=>?_) ?_
              · go_simp
                refine hK.out _ _ (KS2 _ EA3 EB3) (fun hHeld=>?_)
                clear hK K
                refine wpAnyH_ready (rs:=[10]) (by kernel_rfl) (by simp) ?_
                refine AllReadyH.cons (o:=⟨some 50,.call { callee:=.builtin .append,args:=#[.tmp 41,.tmp 49],argTypes:=#[26,26] },_,_,_,none⟩) rfl (fun K hK=>?_) ?_
                · refine step_appG rowV (by rfl) (.tmp 41) (.tmp 49) (by rfl) ((w.heap.size + 2) + 1) qm cm us ⟨w2.heap.size,0,none⟩ 1 [u] k 1 (k + 1) (uh HUS) rfl rfl (by rfl) (by rfl) (((uh HO).below R3).below ((Below.refl _ _).alloc (Nat.le_refl _) _)) (node_src (box_nw _ _)) hkm hkb (by simp only [size_al];omega) ?_
                  intro q3 c3 w3 ho3 hb3 hg3 hor3
                  have s3:=hg3.size
                  simp only [size_al] at s3
                  have hEq:∀ bb,bb < wr.heap.size→bb≤(w.heap.size + 2)→w3.heap[bb]? = wr.heap[bb]?:=fun bb h1 h2=>(hg3.block bb (by simp only [size_al];omega) (fun e=>by have:=uh HGE _ e.symm;omega)).trans ((((Below.refl w2.heap.size w2).alloc (Nat.le_refl _) _).block bb (by omega)).trans (R3.block bb h1))
                  have EA4:∀ o,w3.cell? ⟨w.heap.size,o,none⟩=wr.cell? ⟨w.heap.size,o,none⟩:=fun o=>World.cell?_of_block (w:=wr) (a:=⟨w.heap.size,o,none⟩) (hEq w.heap.size (by omega) (by omega))
                  have EB4:∀ o,w3.cell? ⟨b,o,none⟩=wr.cell? ⟨b,o,none⟩:=fun o=>World.cell?_of_block (w:=wr) (a:=⟨b,o,none⟩) (hEq b (by omega) (by omega))
                  have hp3:=hEq (w.heap.size + 2) lpb (Nat.le_refl _)
                  have n7:w3.cell? ⟨(w.heap.size + 2),7,none⟩=some (.slice qm k cm):=(World.cell?_of_block (w:=wr) (a:=⟨(w.heap.size + 2),7,none⟩) hp3).trans c7
                  have nf:∀ o,w3.frozen? ⟨(w.heap.size + 2),o,none⟩=false:=fun o=>(World.frozen?_of_block (w:=wr) (a:=⟨(w.heap.size + 2),o,none⟩) hp3).trans (hcf o)
                  have HO3:=hide ho3
                  have HG3:=hide hg3
                  have HR3:=hide hor3
                  have HP3:=hide hp3
                  clear ho3 hb3 hg3 hor3 hp3 hEq
                  refine hK.out _ _ (KS2 _ EA4 EB4) (fun hHeld=>?_)
                  clear hK K
                  refine wpAnyH_take (i:=11) (oi:=⟨some 51,.fieldAddr 28 (.tmp 5) 2,_,_,_,none⟩) (v:=?_) rfl (by kernel_rfl) (by kernel_rfl) (by kernel_rfl) (fun _ _ _ h=>h) (Or.inl ⟨by rfl, ?_⟩) (by assumption) ?_
                  rotate_left
                  · intro wq hSw
                    go_simp
                    with_reducible rfl
                  simp only [Act.put,List.setIfInBounds_toArray,List.set_cons_zero,List.set_cons_succ]
                  refine wpAnyH_ready (rs:=[12]) (by kernel_rfl) (by simp) ?_
                  refine AllReadyH.cons (o:=⟨none,.store 26 (.tmp 51) (.tmp 50),_,_,_,none⟩) rfl (fun K hK=>?_) ?_
                  · go_simp
                    refine hK.out _ _ (KS2 _ (fun o=>(set_other _ (by omega) o 7 _).trans (EA4 o)) (fun o=>(set_other _ (by omega) o 7 _).trans (EB4 o))) (fun hHeld=>?_)
                    clear hK K
                    refine wpAnyH_done (by kernel_rfl) ?_ _
                    have P4:=hide (rdown_round (uh HB) R3 (uh HO) (uh HF) (uh HU) (uh HDK) (uh HUS) (uh HG3) (uh HR3) (uh HO3) (uh HP3) lpb n7 hwp0 (Nat.le_refl _))
                    have hl4:(us ++ [u]).length=k + 1:=by rw [List.length_append,uh HUS];rfl
                    have K0:=hide (show _∧_∧_∧_∧_∧_∧_ from ⟨c0,c1,c2,c3x,c4,c5,c6⟩)
                    go_wp2
                    go_roundw
                    case rel =>
                      obtain ⟨p1,p2,p3,p4,p5,p6,p7⟩:=uh P4
                      obtain ⟨c0,c1,c2,c3x,c4,c5,c6⟩:=uh K0
                      exact ⟨k + 1,q3,c3,us ++ [u],by omega,by go_num,hl4,p1,p2,⟨(p3 0 (by omega)).trans c0,(p3 1 (by omega)).trans c1,(p3 2 (by omega)).trans c2,(p3 3 (by omega)).trans c3x,(p3 4 (by omega)).trans c4,(p3 5 (by omega)).trans c5,(p3 6 (by omega)).trans c6,p4⟩,fun o=>(p5 o).trans (hcf o),p6,p7⟩
                    case measure=>simp [intOf];omega
                  exact AllReadyH.nil
                exact AllReadyH.nil
              exact AllReadyH.nil
            exact AllReadyH.nil
          exact AllReadyH.nil
        · have hkl:k=kids.length:=by omega
          subst hkl
          have ki1:¬ (kids.length:Int) < (kids.length:Int):=by omega
          have r0:=(bwr.cell (p:=⟨w.heap.size + 1,0,none⟩) (by exact hz1)).trans y0
          have r1:=(bwr.cell (p:=⟨w.heap.size + 1,1,none⟩) (by exact hz1)).trans y1
          have r2:=(bwr.cell (p:=⟨w.heap.size + 1,2,none⟩) (by exact hz1)).trans y2
          have r3:=(bwr.cell (p:=⟨w.heap.size + 1,3,none⟩) (by exact hz1)).trans y3
          have r4:=(bwr.cell (p:=⟨w.heap.size + 1,4,none⟩) (by exact hz1)).trans y4
          have r5:=(bwr.cell (p:=⟨w.heap.size + 1,5,none⟩) (by exact hz1)).trans y5
          have r6:=(bwr.cell (p:=⟨w.heap.size + 1,6,none⟩) (by exact hz1)).trans y6
          have r7:=(bwr.cell (p:=⟨w.heap.size + 1,7,none⟩) (by exact hz1)).trans y7
          have rf:∀ o,wr.frozen? ⟨w.heap.size + 1,o,none⟩=false:=fun o=>(bwr.frozen (by exact hz1)).trans (yf o)
          have rz:w.heap.size + 1 < wr.heap.size:=by omega
          have BF:=hide (set8_below (g:=w.heap.size + 1) (below_sub (uh HWX) bwr) (Nat.le_succ _) (.int .i64 0) (.string ⟨#[]⟩) (.slice none 0 0) (.slice none 0 0) (.int .i64 0) (.int .i64 0) (.int .i64 4) (.slice qm kids.length cm))
          have NF:=hide (rdown_fin (op:=4) (w:=w) hown hoff (by rw [downL_len];exact hus) (downL_len kids true) (uh HB00).size (Nat.le_refl _) (.int .i64 0) (.string ⟨#[]⟩) (.slice none 0 0) (.slice none 0 0) (.int .i64 0) (.int .i64 0) (.int .i64 4) (.slice qm kids.length cm))
          clear hown hoff hbel bwr hus x0 x1 x2 x3 x4 x5 x6 x7 y0 y1 y2 y3 y4 y5 y6 y7
          go_wp2
          refine bodyPost_ret (v:=.agg #[.int .i64 0,.string ⟨#[]⟩,.slice none 0 0,.slice none 0 0,.int .i64 0,.int .i64 0,.int .i64 4,.slice qm kids.length cm]) (by simp [results,Try.results24,go_sem, *]) rfl ⟨⟨⟨0,⟨#[]⟩,none,0,0,none,0,0,0,0,4,qm,kids.length,cm⟩,rfl,uh NF⟩,uh BF⟩
    · obtain rfl:op2=3:=by omega
      clear wop e1 e2 hop
      go_enter Try.func24,Try.ntmps24
      go_wp2
      go_loopw [6] (fun i wr=>∃ (k:Nat) (qm:Option Addr) (cm:Nat) (us:List Nv),k≤kids.length∧i=.int .i64 k∧us.length=k∧OwnK encV 28 8 ((w.heap.size + 2) + 1) wr qm cm us∧Off2 w0.heap.size (w.heap.size + 2) (InAll (downL kids true) us) (w.heap.size + 2) (Value.slice qm k cm).ownBlock wr∧(wr.cell? ⟨(w.heap.size + 2),0,none⟩=some (.int .i64 0)∧wr.cell? ⟨(w.heap.size + 2),1,none⟩=some (.string ⟨#[]⟩)∧wr.cell? ⟨(w.heap.size + 2),2,none⟩=some (.slice none 0 0)∧wr.cell? ⟨(w.heap.size + 2),3,none⟩=some (.slice none 0 0)∧wr.cell? ⟨(w.heap.size + 2),4,none⟩=some (.int .i64 0)∧wr.cell? ⟨(w.heap.size + 2),5,none⟩=some (.int .i64 0)∧wr.cell? ⟨(w.heap.size + 2),6,none⟩=some (.int .i64 3)∧wr.cell? ⟨(w.heap.size + 2),7,none⟩=some (.slice qm k cm))∧(∀ o,wr.frozen? ⟨(w.heap.size + 2),o,none⟩=false)∧Below (w.heap.size + 2) X wr∧(w.heap.size + 2) < wr.heap.size) (fun i _=>kids.length - (intOf i).toNat)
      case atStart =>
        obtain ⟨p3,p4,p5,p6⟩:=uh HST _ rfl
        exact ⟨0,none,0,[],by omega,rfl,rfl,OwnK.nil _ _,fun w' _ _ j v x h=>by simp at h,p3,p4,p5,p6⟩
      case round =>
        obtain ⟨k,qm,cm,us,hkk,rfl,hus,hown,hoff,⟨c0,c1,c2,c3x,c4,c5,c6,c7⟩,hcf,hbel,lpb⟩:=hrel
        have HO:=hide hown
        have HF:=hide hoff
        have HB:=hide hbel
        have HUS:=hide hus
        have bwr:Below X.heap.size X wr:=by rw [hXp];exact hbel
        have v7:=(bwr.cell (p:=⟨w.heap.size,7,none⟩) (by exact hz0)).trans x7
        by_cases hlt:k < kids.length
        · obtain ⟨x,hx,hxd⟩:=get_at hlt
          clear hxd
          obtain ⟨b,off,v,hq,hbb,hin,g0,g1,g2,g3,g4,g5,g6,g7⟩:=(uh HK).at hx
          subst hq
          have b0r:=below_sub (uh HB0) bwr
          have hxm:x ∈ kids:=List.mem_of_getElem? hx
          have hxw:=wtL_mem hxm
          have ki0:(0:Int)≤(k:Int):=by omega
          have ki1:(k:Int) < (kids.length:Int):=by omega
          have hw0:=(uh HB00).size
          have hwp0:w0.heap.size≤(w.heap.size + 2):=by omega
          have k0:=(b0r.cell (p:=⟨b,off + k * 8,none⟩) hbb).trans g0
          have k1:=(b0r.cell (p:=⟨b,off + k * 8 + 1,none⟩) hbb).trans g1
          have k2:=(b0r.cell (p:=⟨b,off + k * 8 + 2,none⟩) hbb).trans g2
          have k3:=(b0r.cell (p:=⟨b,off + k * 8 + 3,none⟩) hbb).trans g3
          have k4:=(b0r.cell (p:=⟨b,off + k * 8 + 4,none⟩) hbb).trans g4
          have k5:=(b0r.cell (p:=⟨b,off + k * 8 + 5,none⟩) hbb).trans g5
          have k6:=(b0r.cell (p:=⟨b,off + k * 8 + 6,none⟩) hbb).trans g6
          have k7:=(b0r.cell (p:=⟨b,off + k * 8 + 7,none⟩) hbb).trans g7
          have KS2:∀ W:World,(∀ o,W.cell? ⟨w.heap.size,o,none⟩=wr.cell? ⟨w.heap.size,o,none⟩)→(∀ o,W.cell? ⟨b,o,none⟩=wr.cell? ⟨b,o,none⟩)→(fun w'=>w'.cell? ⟨w.heap.size,7,none⟩=some (.slice (some ⟨b,off,none⟩) kids.length ck)∧w'.cell? ⟨b,off + k * 8,none⟩=some (.int .i64 v.kind)∧w'.cell? ⟨b,off + k * 8 + 1,none⟩=some (.string v.attr)∧w'.cell? ⟨b,off + k * 8 + 2,none⟩=some (.slice v.qi v.ni v.ci)∧w'.cell? ⟨b,off + k * 8 + 3,none⟩=some (.slice v.qw v.nw v.cw)∧w'.cell? ⟨b,off + k * 8 + 4,none⟩=some (.int .i64 v.lo)∧w'.cell? ⟨b,off + k * 8 + 5,none⟩=some (.int .i64 v.hi)∧w'.cell? ⟨b,off + k * 8 + 6,none⟩=some (.int .i64 v.op)∧w'.cell? ⟨b,off + k * 8 + 7,none⟩=some (.slice v.qk v.nk v.ck)) W:=fun W ha hb=>⟨(ha 7).trans v7,(hb _).trans k0,(hb _).trans k1,(hb _).trans k2,(hb _).trans k3,(hb _).trans k4,(hb _).trans k5,(hb _).trans k6,(hb _).trans k7⟩
          have EA0:∀ o,wr.drew.cell? ⟨w.heap.size,o,none⟩=wr.cell? ⟨w.heap.size,o,none⟩:=fun o=>rfl
          have EB0:∀ o,wr.drew.cell? ⟨b,o,none⟩=wr.cell? ⟨b,o,none⟩:=fun o=>rfl
          have hNd:=uh IH x hxm true v w0 wr.drew hin b0r.drew (uh HC x hxm) (by omega)
          simp only [Nv.val] at hNd
          have HDK:=hide (downL_at true hx)
          have HGE:=hide (hown.ownGe hus)
          have hkm:k + 1≤maxLen:=by unfold maxLen;omega
          have hkb:(k + 1) * 120≤140737488355328:=by omega
          have nn1:¬ w.heap.size=(w.heap.size + 2):=by omega
          have nn2:¬ b=(w.heap.size + 2):=by omega
          clear hin hx hxm hown hoff hbel hus g0 g1 g2 g3 g4 g5 g6 g7 b0r
          go_wp2
          refine wp_region_held_drew (S:=fun w'=>w'.cell? ⟨w.heap.size,7,none⟩=some (.slice (some ⟨b,off,none⟩) kids.length ck)∧w'.cell? ⟨b,off + k * 8,none⟩=some (.int .i64 v.kind)∧w'.cell? ⟨b,off + k * 8 + 1,none⟩=some (.string v.attr)∧w'.cell? ⟨b,off + k * 8 + 2,none⟩=some (.slice v.qi v.ni v.ci)∧w'.cell? ⟨b,off + k * 8 + 3,none⟩=some (.slice v.qw v.nw v.cw)∧w'.cell? ⟨b,off + k * 8 + 4,none⟩=some (.int .i64 v.lo)∧w'.cell? ⟨b,off + k * 8 + 5,none⟩=some (.int .i64 v.hi)∧w'.cell? ⟨b,off + k * 8 + 6,none⟩=some (.int .i64 v.op)∧w'.cell? ⟨b,off + k * 8 + 7,none⟩=some (.slice v.qk v.nk v.ck)) (by kernel_rfl) (KS2 _ EA0 EB0) (fun hHeld=>?_)
          refine wpAnyH_take (i:=0) (oi:=⟨some 40,.fieldAddr 28 (.tmp 5) 2,_,_,_,none⟩) (v:=?_) rfl (by kernel_rfl) (by kernel_rfl) (by kernel_rfl) (fun _ _ _ h=>h) (Or.inl ⟨by rfl, ?_⟩) (by assumption) ?_
          rotate_left
          · intro wq hSw
            go_simp
            with_reducible rfl
          simp only [Act.put,List.setIfInBounds_toArray,List.set_cons_zero,List.set_cons_succ]
          refine wpAnyH_take (i:=2) (oi:=⟨some 42,.fieldAddr 28 (.tmp 2) 2,_,_,_,none⟩) (v:=?_) rfl (by kernel_rfl) (by kernel_rfl) (by kernel_rfl) (fun _ _ _ h=>h) (Or.inl ⟨by rfl, ?_⟩) (by assumption) ?_
          rotate_left
          · intro wq hSw
            go_simp
            with_reducible rfl
          simp only [Act.put,List.setIfInBounds_toArray,List.set_cons_zero,List.set_cons_succ]
          refine wpAnyH_take (i:=3) (oi:=⟨some 43,.load 26 (.tmp 42),_,_,_,none⟩) (v:=?_) rfl (by kernel_rfl) (by kernel_rfl) (by kernel_rfl) (fun _ _ _ h=>h) (Or.inl ⟨by rfl, ?_⟩) (by assumption) ?_
          rotate_left
          · intro wq hSw
            go_simp
            with_reducible rfl
          simp only [Act.put,List.setIfInBounds_toArray,List.set_cons_zero,List.set_cons_succ]
          refine wpAnyH_take (i:=4) (oi:=⟨some 44,.move (.tmp 6),_,_,_,none⟩) (v:=?_) rfl (by kernel_rfl) (by kernel_rfl) (by kernel_rfl) (fun _ _ _ h=>h) (Or.inl ⟨by rfl, ?_⟩) (by assumption) ?_
          rotate_left
          · intro wq hSw
            go_simp
            with_reducible rfl
          simp only [Act.put,List.setIfInBounds_toArray,List.set_cons_zero,List.set_cons_succ]
          refine wpAnyH_take (i:=5) (oi:=⟨some 45,.indexAddr 26 (.tmp 43) (.tmp 44),_,_,_,none⟩) (v:=?_) rfl (by kernel_rfl) (by kernel_rfl) (by kernel_rfl) (fun _ _ _ h=>h) (Or.inl ⟨by rfl, ?_⟩) (by assumption) ?_
          rotate_left
          · intro wq hSw
            go_simp
            with_reducible rfl
          simp only [Act.put,List.setIfInBounds_toArray,List.set_cons_zero,List.set_cons_succ]
          refine wpAnyH_take (i:=6) (oi:=⟨some 46,.load 28 (.tmp 45),_,_,_,none⟩) (v:=?_) rfl (by kernel_rfl) (by kernel_rfl) (by kernel_rfl) (fun _ _ _ h=>h) (Or.inl ⟨by rfl, ?_⟩) (by assumption) ?_
          rotate_left
          · intro wq hSw
            go_simp
            with_reducible rfl
          simp only [Act.put,List.setIfInBounds_toArray,List.set_cons_zero,List.set_cons_succ]
          refine wpAnyH_take (i:=7) (oi:=⟨some 47,.move (.tmp 1),_,_,_,none⟩) (v:=?_) rfl (by kernel_rfl) (by kernel_rfl) (by kernel_rfl) (fun _ _ _ h=>h) (Or.inl ⟨by rfl, ?_⟩) (by assumption) ?_
          rotate_left
          · intro wq hSw
            go_simp
            with_reducible rfl
          simp only [Act.put,List.setIfInBounds_toArray,List.set_cons_zero,List.set_cons_succ]
          refine wpAnyH_ready (rs:=[1,8]) (by kernel_rfl) (by simp) ?_
          refine AllReadyH.cons (o:=⟨some 41,.load 26 (.tmp 40),_,_,_,none⟩) rfl (fun K hK=>?_) ?_
          · go_simp
            refine hK.out _ _ (KS2 _ EA0 EB0) (fun hHeld=>?_)
            clear hK K
            refine wpAnyH_ready (rs:=[8]) (by kernel_rfl) (by simp) ?_
            refine AllReadyH.cons (o:=⟨some 48,.call { callee:=.value (.func 24),args:=#[.tmp 46,.tmp 47],argTypes:=#[28,4] },_,_,_,none⟩) rfl (fun K hK=>?_) ?_
            · go_simp
              refine hNd.mono ?_
              rintro e w2 ⟨⟨u,rfl,hu⟩,hb2⟩
              simp only
              have R3:Below wr.heap.size wr w2:=below_undrewM hb2
              have s2:=R3.size
              have EA2:∀ o,w2.cell? ⟨w.heap.size,o,none⟩=wr.cell? ⟨w.heap.size,o,none⟩:=fun o=>R3.cell (p:=⟨w.heap.size,o,none⟩) (by simp only;omega)
              have EB2:∀ o,w2.cell? ⟨b,o,none⟩=wr.cell? ⟨b,o,none⟩:=fun o=>R3.cell (p:=⟨b,o,none⟩) (by simp only;omega)
              have m7:w2.cell? ⟨(w.heap.size + 2),7,none⟩=some (.slice qm k cm):=(R3.cell (p:=⟨(w.heap.size + 2),7,none⟩) (by simp only;omega)).trans c7
              have lm2:(w.heap.size + 2) < w2.heap.size:=by omega
              have nm2:¬ (w.heap.size + 2)=w2.heap.size:=by omega
              have EA3:∀ o,(w2.alloc (.cells #[.int .i64 u.kind,.string u.attr,.slice u.qi u.ni u.ci,.slice u.qw u.nw u.cw,.int .i64 u.lo,.int .i64 u.hi,.int .i64 u.op,.slice u.qk u.nk u.ck] 28)).cell? ⟨w.heap.size,o,none⟩=wr.cell? ⟨w.heap.size,o,none⟩:=fun o=>(((Below.refl w2.heap.size w2).alloc (Nat.le_refl _) _).cell (p:=⟨w.heap.size,o,none⟩) (by simp only;omega)).trans (EA2 o)
              have EB3:∀ o,(w2.alloc (.cells #[.int .i64 u.kind,.string u.attr,.slice u.qi u.ni u.ci,.slice u.qw u.nw u.cw,.int .i64 u.lo,.int .i64 u.hi,.int .i64 u.op,.slice u.qk u.nk u.ck] 28)).cell? ⟨b,o,none⟩=wr.cell? ⟨b,o,none⟩:=fun o=>(((Below.refl w2.heap.size w2).alloc (Nat.le_refl _) _).cell (p:=⟨b,o,none⟩) (by simp only;omega)).trans (EB2 o)
              have HU:=hide hu
              clear hu hb2
              refine hK.out _ _ (KS2 _ EA2 EB2) (fun hHeld=>?_)
              clear hK K
              refine wpAnyH_ready (rs:=[9]) (by kernel_rfl) (by simp) ?_
              refine AllReadyH.cons (o:=⟨some 49,.buildSlice 26 1 #[(0,.tmp 48)],_,_,_,none⟩) rfl (fun K hK=>?_) ?_
              · go_simp
                refine hK.out _ _ (KS2 _ EA3 EB3) (fun hHeld=>?_)
                clear hK K
                refine wpAnyH_ready (rs:=[10]) (by kernel_rfl) (by simp) ?_
                refine AllReadyH.cons (o:=⟨some 50,.call { callee:=.builtin .append,args:=#[.tmp 41,.tmp 49],argTypes:=#[26,26] },_,_,_,none⟩) rfl (fun K hK=>?_) ?_
                · refine step_appG rowV (by rfl) (.tmp 41) (.tmp 49) (by rfl) ((w.heap.size + 2) + 1) qm cm us ⟨w2.heap.size,0,none⟩ 1 [u] k 1 (k + 1) (uh HUS) rfl rfl (by rfl) (by rfl) (((uh HO).below R3).below ((Below.refl _ _).alloc (Nat.le_refl _) _)) (node_src (box_nw _ _)) hkm hkb (by simp only [size_al];omega) ?_
                  intro q3 c3 w3 ho3 hb3 hg3 hor3
                  have s3:=hg3.size
                  simp only [size_al] at s3
                  have hEq:∀ bb,bb < wr.heap.size→bb≤(w.heap.size + 2)→w3.heap[bb]? = wr.heap[bb]?:=fun bb h1 h2=>(hg3.block bb (by simp only [size_al];omega) (fun e=>by have:=uh HGE _ e.symm;omega)).trans ((((Below.refl w2.heap.size w2).alloc (Nat.le_refl _) _).block bb (by omega)).trans (R3.block bb h1))
                  have EA4:∀ o,w3.cell? ⟨w.heap.size,o,none⟩=wr.cell? ⟨w.heap.size,o,none⟩:=fun o=>World.cell?_of_block (w:=wr) (a:=⟨w.heap.size,o,none⟩) (hEq w.heap.size (by omega) (by omega))
                  have EB4:∀ o,w3.cell? ⟨b,o,none⟩=wr.cell? ⟨b,o,none⟩:=fun o=>World.cell?_of_block (w:=wr) (a:=⟨b,o,none⟩) (hEq b (by omega) (by omega))
                  have hp3:=hEq (w.heap.size + 2) lpb (Nat.le_refl _)
                  have n7:w3.cell? ⟨(w.heap.size + 2),7,none⟩=some (.slice qm k cm):=(World.cell?_of_block (w:=wr) (a:=⟨(w.heap.size + 2),7,none⟩) hp3).trans c7
                  have nf:∀ o,w3.frozen? ⟨(w.heap.size + 2),o,none⟩=false:=fun o=>(World.frozen?_of_block (w:=wr) (a:=⟨(w.heap.size + 2),o,none⟩) hp3).trans (hcf o)
                  have HO3:=hide ho3
                  have HG3:=hide hg3
                  have HR3:=hide hor3
                  have HP3:=hide hp3
                  clear ho3 hb3 hg3 hor3 hp3 hEq
                  refine hK.out _ _ (KS2 _ EA4 EB4) (fun hHeld=>?_)
                  clear hK K
                  refine wpAnyH_take (i:=11) (oi:=⟨some 51,.fieldAddr 28 (.tmp 5) 2,_,_,_,none⟩) (v:=?_) rfl (by kernel_rfl) (by kernel_rfl) (by kernel_rfl) (fun _ _ _ h=>h) (Or.inl ⟨by rfl, ?_⟩) (by assumption) ?_
                  rotate_left
                  · intro wq hSw
                    go_simp
                    with_reducible rfl
                  simp only [Act.put,List.setIfInBounds_toArray,List.set_cons_zero,List.set_cons_succ]
                  refine wpAnyH_ready (rs:=[12]) (by kernel_rfl) (by simp) ?_
                  refine AllReadyH.cons (o:=⟨none,.store 26 (.tmp 51) (.tmp 50),_,_,_,none⟩) rfl (fun K hK=>?_) ?_
                  · go_simp
                    refine hK.out _ _ (KS2 _ (fun o=>(set_other _ (by omega) o 7 _).trans (EA4 o)) (fun o=>(set_other _ (by omega) o 7 _).trans (EB4 o))) (fun hHeld=>?_)
                    clear hK K
                    refine wpAnyH_done (by kernel_rfl) ?_ _
                    have P4:=hide (rdown_round (uh HB) R3 (uh HO) (uh HF) (uh HU) (uh HDK) (uh HUS) (uh HG3) (uh HR3) (uh HO3) (uh HP3) lpb n7 hwp0 (Nat.le_refl _))
                    have hl4:(us ++ [u]).length=k + 1:=by rw [List.length_append,uh HUS];rfl
                    have K0:=hide (show _∧_∧_∧_∧_∧_∧_ from ⟨c0,c1,c2,c3x,c4,c5,c6⟩)
                    go_wp2
                    go_roundw
                    case rel =>
                      obtain ⟨p1,p2,p3,p4,p5,p6,p7⟩:=uh P4
                      obtain ⟨c0,c1,c2,c3x,c4,c5,c6⟩:=uh K0
                      exact ⟨k + 1,q3,c3,us ++ [u],by omega,by go_num,hl4,p1,p2,⟨(p3 0 (by omega)).trans c0,(p3 1 (by omega)).trans c1,(p3 2 (by omega)).trans c2,(p3 3 (by omega)).trans c3x,(p3 4 (by omega)).trans c4,(p3 5 (by omega)).trans c5,(p3 6 (by omega)).trans c6,p4⟩,fun o=>(p5 o).trans (hcf o),p6,p7⟩
                    case measure=>simp [intOf];omega
                  exact AllReadyH.nil
                exact AllReadyH.nil
              exact AllReadyH.nil
            exact AllReadyH.nil
          refine AllReadyH.cons (o:=⟨some 48,.call { callee:=.value (.func 24),args:=#[.tmp 46,.tmp 47],argTypes:=#[28,4] },_,_,_,none⟩) rfl (fun K hK=>?_) ?_
          · go_simp
            refine hNd.mono ?_
            rintro e w2 ⟨⟨u,rfl,hu⟩,hb2⟩
            simp only
            have R3:Below wr.heap.size wr w2:=below_undrewM hb2
            have s2:=R3.size
            have EA2:∀ o,w2.cell? ⟨w.heap.size,o,none⟩=wr.cell? ⟨w.heap.size,o,none⟩:=fun o=>R3.cell (p:=⟨w.heap.size,o,none⟩) (by simp only;omega)
            have EB2:∀ o,w2.cell? ⟨b,o,none⟩=wr.cell? ⟨b,o,none⟩:=fun o=>R3.cell (p:=⟨b,o,none⟩) (by simp only;omega)
            have m7:w2.cell? ⟨(w.heap.size + 2),7,none⟩=some (.slice qm k cm):=(R3.cell (p:=⟨(w.heap.size + 2),7,none⟩) (by simp only;omega)).trans c7
            have lm2:(w.heap.size + 2) < w2.heap.size:=by omega
            have nm2:¬ (w.heap.size + 2)=w2.heap.size:=by omega
            have EA3:∀ o,(w2.alloc (.cells #[.int .i64 u.kind,.string u.attr,.slice u.qi u.ni u.ci,.slice u.qw u.nw u.cw,.int .i64 u.lo,.int .i64 u.hi,.int .i64 u.op,.slice u.qk u.nk u.ck] 28)).cell? ⟨w.heap.size,o,none⟩=wr.cell? ⟨w.heap.size,o,none⟩:=fun o=>(((Below.refl w2.heap.size w2).alloc (Nat.le_refl _) _).cell (p:=⟨w.heap.size,o,none⟩) (by simp only;omega)).trans (EA2 o)
            have EB3:∀ o,(w2.alloc (.cells #[.int .i64 u.kind,.string u.attr,.slice u.qi u.ni u.ci,.slice u.qw u.nw u.cw,.int .i64 u.lo,.int .i64 u.hi,.int .i64 u.op,.slice u.qk u.nk u.ck] 28)).cell? ⟨b,o,none⟩=wr.cell? ⟨b,o,none⟩:=fun o=>(((Below.refl w2.heap.size w2).alloc (Nat.le_refl _) _).cell (p:=⟨b,o,none⟩) (by simp only;omega)).trans (EB2 o)
            have HU:=hide hu
            clear hu hb2
            refine hK.out _ _ (KS2 _ EA2 EB2) (fun hHeld=>?_)
            clear hK K
            refine wpAnyH_ready (rs:=[1,9]) (by kernel_rfl) (by simp) ?_
            refine AllReadyH.cons (o:=⟨some 41,.load 26 (.tmp 40),_,_,_,none⟩) rfl (fun K hK=>?_) ?_
            · go_simp
              refine hK.out _ _ (KS2 _ EA2 EB2) (fun hHeld=>?_)
              clear hK K
              refine wpAnyH_ready (rs:=[9]) (by kernel_rfl) (by simp) ?_
              refine AllReadyH.cons (o:=⟨some 49,.buildSlice 26 1 #[(0,.tmp 48)],_,_,_,none⟩) rfl (fun K hK=>?_) ?_
              · go_simp
                refine hK.out _ _ (KS2 _ EA3 EB3) (fun hHeld=>?_)
                clear hK K
                refine wpAnyH_ready (rs:=[10]) (by kernel_rfl) (by simp) ?_
                refine AllReadyH.cons (o:=⟨some 50,.call { callee:=.builtin .append,args:=#[.tmp 41,.tmp 49],argTypes:=#[26,26] },_,_,_,none⟩) rfl (fun K hK=>?_) ?_
                · refine step_appG rowV (by rfl) (.tmp 41) (.tmp 49) (by rfl) ((w.heap.size + 2) + 1) qm cm us ⟨w2.heap.size,0,none⟩ 1 [u] k 1 (k + 1) (uh HUS) rfl rfl (by rfl) (by rfl) (((uh HO).below R3).below ((Below.refl _ _).alloc (Nat.le_refl _) _)) (node_src (box_nw _ _)) hkm hkb (by simp only [size_al];omega) ?_
                  intro q3 c3 w3 ho3 hb3 hg3 hor3
                  have s3:=hg3.size
                  simp only [size_al] at s3
                  have hEq:∀ bb,bb < wr.heap.size→bb≤(w.heap.size + 2)→w3.heap[bb]? = wr.heap[bb]?:=fun bb h1 h2=>(hg3.block bb (by simp only [size_al];omega) (fun e=>by have:=uh HGE _ e.symm;omega)).trans ((((Below.refl w2.heap.size w2).alloc (Nat.le_refl _) _).block bb (by omega)).trans (R3.block bb h1))
                  have EA4:∀ o,w3.cell? ⟨w.heap.size,o,none⟩=wr.cell? ⟨w.heap.size,o,none⟩:=fun o=>World.cell?_of_block (w:=wr) (a:=⟨w.heap.size,o,none⟩) (hEq w.heap.size (by omega) (by omega))
                  have EB4:∀ o,w3.cell? ⟨b,o,none⟩=wr.cell? ⟨b,o,none⟩:=fun o=>World.cell?_of_block (w:=wr) (a:=⟨b,o,none⟩) (hEq b (by omega) (by omega))
                  have hp3:=hEq (w.heap.size + 2) lpb (Nat.le_refl _)
                  have n7:w3.cell? ⟨(w.heap.size + 2),7,none⟩=some (.slice qm k cm):=(World.cell?_of_block (w:=wr) (a:=⟨(w.heap.size + 2),7,none⟩) hp3).trans c7
                  have nf:∀ o,w3.frozen? ⟨(w.heap.size + 2),o,none⟩=false:=fun o=>(World.frozen?_of_block (w:=wr) (a:=⟨(w.heap.size + 2),o,none⟩) hp3).trans (hcf o)
                  have HO3:=hide ho3
                  have HG3:=hide hg3
                  have HR3:=hide hor3
                  have HP3:=hide hp3
                  clear ho3 hb3 hg3 hor3 hp3 hEq
                  refine hK.out _ _ (KS2 _ EA4 EB4) (fun hHeld=>?_)
                  clear hK K
                  refine wpAnyH_take (i:=11) (oi:=⟨some 51,.fieldAddr 28 (.tmp 5) 2,_,_,_,none⟩) (v:=?_) rfl (by kernel_rfl) (by kernel_rfl) (by kernel_rfl) (fun _ _ _ h=>h) (Or.inl ⟨by rfl, ?_⟩) (by assumption) ?_
                  rotate_left
                  · intro wq hSw
                    go_simp
                    with_reducible rfl
                  simp only [Act.put,List.setIfInBounds_toArray,List.set_cons_zero,List.set_cons_succ]
                  refine wpAnyH_ready (rs:=[12]) (by kernel_rfl) (by simp) ?_
                  refine AllReadyH.cons (o:=⟨none,.store 26 (.tmp 51) (.tmp 50),_,_,_,none⟩) rfl (fun K hK=>?_) ?_
                  · go_simp
                    refine hK.out _ _ (KS2 _ (fun o=>(set_other _ (by omega) o 7 _).trans (EA4 o)) (fun o=>(set_other _ (by omega) o 7 _).trans (EB4 o))) (fun hHeld=>?_)
                    clear hK K
                    refine wpAnyH_done (by kernel_rfl) ?_ _
                    have P4:=hide (rdown_round (uh HB) R3 (uh HO) (uh HF) (uh HU) (uh HDK) (uh HUS) (uh HG3) (uh HR3) (uh HO3) (uh HP3) lpb n7 hwp0 (Nat.le_refl _))
                    have hl4:(us ++ [u]).length=k + 1:=by rw [List.length_append,uh HUS];rfl
                    have K0:=hide (show _∧_∧_∧_∧_∧_∧_ from ⟨c0,c1,c2,c3x,c4,c5,c6⟩)
                    go_wp2
                    go_roundw
                    case rel =>
                      obtain ⟨p1,p2,p3,p4,p5,p6,p7⟩:=uh P4
                      obtain ⟨c0,c1,c2,c3x,c4,c5,c6⟩:=uh K0
                      exact ⟨k + 1,q3,c3,us ++ [u],by omega,by go_num,hl4,p1,p2,⟨(p3 0 (by omega)).trans c0,(p3 1 (by omega)).trans c1,(p3 2 (by omega)).trans c2,(p3 3 (by omega)).trans c3x,(p3 4 (by omega)).trans c4,(p3 5 (by omega)).trans c5,(p3 6 (by omega)).trans c6,p4⟩,fun o=>(p5 o).trans (hcf o),p6,p7⟩
                    case measure=>simp [intOf];omega
                  exact AllReadyH.nil
                exact AllReadyH.nil
              exact AllReadyH.nil
            refine AllReadyH.cons (o:=⟨some 49,.buildSlice 26 1 #[(0,.tmp 48)],_,_,_,none⟩) rfl (fun K hK=>?_) ?_
            · go_simp
              refine hK.out _ _ (KS2 _ EA3 EB3) (fun hHeld=>?_)
              clear hK K
              refine wpAnyH_ready (rs:=[1]) (by kernel_rfl) (by simp) ?_
              refine AllReadyH.cons (o:=⟨some 41,.load 26 (.tmp 40),_,_,_,none⟩) rfl (fun K hK=>?_) ?_
              · go_simp
                refine hK.out _ _ (KS2 _ EA3 EB3) (fun hHeld=>?_)
                clear hK K
                refine wpAnyH_ready (rs:=[10]) (by kernel_rfl) (by simp) ?_
                refine AllReadyH.cons (o:=⟨some 50,.call { callee:=.builtin .append,args:=#[.tmp 41,.tmp 49],argTypes:=#[26,26] },_,_,_,none⟩) rfl (fun K hK=>?_) ?_
                · refine step_appG rowV (by rfl) (.tmp 41) (.tmp 49) (by rfl) ((w.heap.size + 2) + 1) qm cm us ⟨w2.heap.size,0,none⟩ 1 [u] k 1 (k + 1) (uh HUS) rfl rfl (by rfl) (by rfl) (((uh HO).below R3).below ((Below.refl _ _).alloc (Nat.le_refl _) _)) (node_src (box_nw _ _)) hkm hkb (by simp only [size_al];omega) ?_
                  intro q3 c3 w3 ho3 hb3 hg3 hor3
                  have s3:=hg3.size
                  simp only [size_al] at s3
                  have hEq:∀ bb,bb < wr.heap.size→bb≤(w.heap.size + 2)→w3.heap[bb]? = wr.heap[bb]?:=fun bb h1 h2=>(hg3.block bb (by simp only [size_al];omega) (fun e=>by have:=uh HGE _ e.symm;omega)).trans ((((Below.refl w2.heap.size w2).alloc (Nat.le_refl _) _).block bb (by omega)).trans (R3.block bb h1))
                  have EA4:∀ o,w3.cell? ⟨w.heap.size,o,none⟩=wr.cell? ⟨w.heap.size,o,none⟩:=fun o=>World.cell?_of_block (w:=wr) (a:=⟨w.heap.size,o,none⟩) (hEq w.heap.size (by omega) (by omega))
                  have EB4:∀ o,w3.cell? ⟨b,o,none⟩=wr.cell? ⟨b,o,none⟩:=fun o=>World.cell?_of_block (w:=wr) (a:=⟨b,o,none⟩) (hEq b (by omega) (by omega))
                  have hp3:=hEq (w.heap.size + 2) lpb (Nat.le_refl _)
                  have n7:w3.cell? ⟨(w.heap.size + 2),7,none⟩=some (.slice qm k cm):=(World.cell?_of_block (w:=wr) (a:=⟨(w.heap.size + 2),7,none⟩) hp3).trans c7
                  have nf:∀ o,w3.frozen? ⟨(w.heap.size + 2),o,none⟩=false:=fun o=>(World.frozen?_of_block (w:=wr) (a:=⟨(w.heap.size + 2),o,none⟩) hp3).trans (hcf o)
                  have HO3:=hide ho3
                  have HG3:=hide hg3
                  have HR3:=hide hor3
                  have HP3:=hide hp3
                  clear ho3 hb3 hg3 hor3 hp3 hEq
                  refine hK.out _ _ (KS2 _ EA4 EB4) (fun hHeld=>?_)
                  clear hK K
                  refine wpAnyH_take (i:=11) (oi:=⟨some 51,.fieldAddr 28 (.tmp 5) 2,_,_,_,none⟩) (v:=?_) rfl (by kernel_rfl) (by kernel_rfl) (by kernel_rfl) (fun _ _ _ h=>h) (Or.inl ⟨by rfl, ?_⟩) (by assumption) ?_
                  rotate_left
                  · intro wq hSw
                    go_simp
                    with_reducible rfl
                  simp only [Act.put,List.setIfInBounds_toArray,List.set_cons_zero,List.set_cons_succ]
                  refine wpAnyH_ready (rs:=[12]) (by kernel_rfl) (by simp) ?_
                  refine AllReadyH.cons (o:=⟨none,.store 26 (.tmp 51) (.tmp 50),_,_,_,none⟩) rfl (fun K hK=>?_) ?_
                  · go_simp
                    refine hK.out _ _ (KS2 _ (fun o=>(set_other _ (by omega) o 7 _).trans (EA4 o)) (fun o=>(set_other _ (by omega) o 7 _).trans (EB4 o))) (fun hHeld=>?_)
                    clear hK K
                    refine wpAnyH_done (by kernel_rfl) ?_ _
                    have P4:=hide (rdown_round (uh HB) R3 (uh HO) (uh HF) (uh HU) (uh HDK) (uh HUS) (uh HG3) (uh HR3) (uh HO3) (uh HP3) lpb n7 hwp0 (Nat.le_refl _))
                    have hl4:(us ++ [u]).length=k + 1:=by rw [List.length_append,uh HUS];rfl
                    have K0:=hide (show _∧_∧_∧_∧_∧_∧_ from ⟨c0,c1,c2,c3x,c4,c5,c6⟩)
                    go_wp2
                    go_roundw
                    case rel =>
                      obtain ⟨p1,p2,p3,p4,p5,p6,p7⟩:=uh P4
                      obtain ⟨c0,c1,c2,c3x,c4,c5,c6⟩:=uh K0
                      exact ⟨k + 1,q3,c3,us ++ [u],by omega,by go_num,hl4,p1,p2,⟨(p3 0 (by omega)).trans c0,(p3 1 (by omega)).trans c1,(p3 2 (by omega)).trans c2,(p3 3 (by omega)).trans c3x,(p3 4 (by omega)).trans c4,(p3 5 (by omega)).trans c5,(p3 6 (by omega)).trans c6,p4⟩,fun o=>(p5 o).trans (hcf o),p6,p7⟩
                    case measure=>simp [intOf];omega
                  exact AllReadyH.nil
                exact AllReadyH.nil
              exact AllReadyH.nil
            exact AllReadyH.nil
          exact AllReadyH.nil
        · have hkl:k=kids.length:=by omega
          subst hkl
          have ki1:¬ (kids.length:Int) < (kids.length:Int):=by omega
          have r0:=(bwr.cell (p:=⟨w.heap.size + 1,0,none⟩) (by exact hz1)).trans y0
          have r1:=(bwr.cell (p:=⟨w.heap.size + 1,1,none⟩) (by exact hz1)).trans y1
          have r2:=(bwr.cell (p:=⟨w.heap.size + 1,2,none⟩) (by exact hz1)).trans y2
          have r3:=(bwr.cell (p:=⟨w.heap.size + 1,3,none⟩) (by exact hz1)).trans y3
          have r4:=(bwr.cell (p:=⟨w.heap.size + 1,4,none⟩) (by exact hz1)).trans y4
          have r5:=(bwr.cell (p:=⟨w.heap.size + 1,5,none⟩) (by exact hz1)).trans y5
          have r6:=(bwr.cell (p:=⟨w.heap.size + 1,6,none⟩) (by exact hz1)).trans y6
          have r7:=(bwr.cell (p:=⟨w.heap.size + 1,7,none⟩) (by exact hz1)).trans y7
          have rf:∀ o,wr.frozen? ⟨w.heap.size + 1,o,none⟩=false:=fun o=>(bwr.frozen (by exact hz1)).trans (yf o)
          have rz:w.heap.size + 1 < wr.heap.size:=by omega
          have BF:=hide (set8_below (g:=w.heap.size + 1) (below_sub (uh HWX) bwr) (Nat.le_succ _) (.int .i64 0) (.string ⟨#[]⟩) (.slice none 0 0) (.slice none 0 0) (.int .i64 0) (.int .i64 0) (.int .i64 3) (.slice qm kids.length cm))
          have NF:=hide (rdown_fin (op:=3) (w:=w) hown hoff (by rw [downL_len];exact hus) (downL_len kids true) (uh HB00).size (Nat.le_refl _) (.int .i64 0) (.string ⟨#[]⟩) (.slice none 0 0) (.slice none 0 0) (.int .i64 0) (.int .i64 0) (.int .i64 3) (.slice qm kids.length cm))
          clear hown hoff hbel bwr hus x0 x1 x2 x3 x4 x5 x6 x7 y0 y1 y2 y3 y4 y5 y6 y7
          go_wp2
          refine bodyPost_ret (v:=.agg #[.int .i64 0,.string ⟨#[]⟩,.slice none 0 0,.slice none 0 0,.int .i64 0,.int .i64 0,.int .i64 3,.slice qm kids.length cm]) (by simp [results,Try.results24,go_sem, *]) rfl ⟨⟨⟨0,⟨#[]⟩,none,0,0,none,0,0,0,0,3,qm,kids.length,cm⟩,rfl,uh NF⟩,uh BF⟩
end Go.Proofs.Ytikhopiegaoacab

/- Rows of lists of literals. -/
import Derived.Test.YtikhopiegaoacacDDnfExpand
import Derived.Test.YtikhopiegaoacacDDnfCopies
namespace Go.Proofs.Ytikhopiegaoacac
open Go.RowKit Go.Sort

theorem rowQ:RowOf encQ 31 37 1 24 where
 und:=Try.underlying31
 info:=by
  obtain ⟨i0,hi,hz0,hz1,hz2⟩:=info_parts Try.info37
  exact ⟨i0,_,hi,hz0,hz1,hz2,rfl⟩
 pos:=by decide
 one:=one_flat (fun x c hc=>by
  obtain rfl:c=0:=by omega
  rfl) (by decide)
end Go.Proofs.Ytikhopiegaoacac
namespace Go.Proofs.Ytikhopiegaoacac
open Go.RowKit Go.Sort

theorem growL_off {B B':Nat} {W:World} {q:Option Addr} {c n:Nat} {ls:List Lt} {g:Option Nat} (h:GrowL B' W q c n ls) (hB:B≤B') (hg:∀ b,g=some b→b < B'):OffP B (fun x=>LitsOf x q c ls) g W:=fun x hs hc=>by
 obtain ⟨h1,us,h2,h3,h4⟩:=h
 have su:SameUp B' W x:=⟨hs,fun b hb hlt=>hc b (by omega) hlt fun e=>by have:=hg b e.symm;omega⟩
 exact ⟨us,h3.ls.up (fun a e=>h3.from a e) su,by omega,fun j u l a b=>(h4 x hs (fun b hb hlt _=>su.2 b hb hlt) j u l a b).1⟩
theorem q_src {W:World} {M:Nat} (u:Option Addr × Nat × Nat) (hM:W.heap.size=M):SrcK encQ 1 (W.alloc (.cells #[.slice u.1 u.2.1 u.2.2] 37)) (some ⟨M,0,none⟩) 1 [u]:=by
 subst hM
 have hb:=box_nw W (.cells #[.slice u.1 u.2.1 u.2.2] 37)
 refine LsOf.src (fun h=>by cases h) (LsOf.one (by rw [size_al];omega) fun c hc=>?_)
 obtain rfl:c=0:=by omega
 unfold World.cell?;rw [show (W.alloc (.cells #[.slice u.1 u.2.1 u.2.2] 37)).heap[(⟨W.heap.size,0 + 0,none⟩:Addr).block]? = _ from hb];rfl
/-- Conjunctions that lie in memory from B on. -/
def CjsFrom (B:Nat) (w:World) (q:Option Addr) (c:Nat) (cs:List (List Lt)):Prop:=∀ x,SameUp B w x→CjsOf x q c cs
theorem CjsFrom.now {B:Nat} {w:World} {q:Option Addr} {c:Nat} {cs:List (List Lt)} (h:CjsFrom B w q c cs):CjsOf w q c cs:=h w (SameUp.of (Below.refl _ _))
def LitsAll (cs:List (List Lt)) (us:List (Option Addr × Nat × Nat)) (x:World):Prop:=∀ (j:Nat) (u:Option Addr × Nat × Nat) (ls:List Lt),us[j]? = some u→cs[j]? = some ls→u.2.1=ls.length∧LitsOf x u.1 u.2.2 ls
set_option maxRecDepth 100000 in
set_option maxHeartbeats 8000000 in
theorem copies_any (q:Option Addr) (c:Nat) (cs:List (List Lt)) (w:World) (hl:CjsOf w q c cs) (hb:∀ ls ∈ cs,litBound ls∧ls.length≤1000000000) (ln:cs.length≤1000000000) :
  Calls Try.prog 7 #[.slice q cs.length c] w fun e w'=>(∃ q' c',e=.returned (.slice q' cs.length c')∧CjsFrom w.heap.size w' q' c' cs)∧Below w.heap.size w w':=by
 have a0:(cs.length:Int)≤1000000000:=by omega
 have HL:=hide hl
 have HBD:=hide hb
 clear hl hb
 go_enter Try.func7,Try.ntmps7
 go_wp2
 go_loopw [3,8] (fun m i wr=>∃ (k:Nat) (qm:Option Addr) (cm:Nat) (us:List (Option Addr × Nat × Nat)),k≤cs.length∧i=.int .i64 k∧m=.slice qm k cm∧us.length=k∧Hid (OwnK encQ 37 1 w.heap.size wr qm cm us)∧Hid (OffP w.heap.size (LitsAll cs us) (Value.slice qm k cm).ownBlock wr)∧Below w.heap.size w wr) (fun _ i _=>cs.length - (intOf i).toNat)
 case atStart=>exact ⟨0,none,0,[],by omega,rfl,rfl,rfl,hide (OwnK.nil _ _),hide (fun x _ _ j u ls h=>by simp at h),Below.refl _ _⟩
 case round =>
  obtain ⟨k,qm,cm,us,hkk,rfl,rfl,hus,HO,HF,hbel⟩:=hrel
  have HB:=hide hbel
  have HUS:=hide hus
  by_cases hlt:k < cs.length
  ·obtain ⟨l,hl,hld⟩:=get_at hlt
   clear hld
   obtain ⟨b,off,q1,c1,hq,hbb,hin,g0⟩:=((uh HL).below hbel).at hl
   subst hq
   have hbd:=uh HBD l (List.mem_of_getElem? hl)
   have ki0:(0:Int)≤(k:Int):=by omega
   have ki1:(k:Int) < (cs.length:Int):=by omega
   have hC:=memLits_any q1 c1 l wr hin hbd.1 hbd.2
   have hL:=hide (fun b e=>(World.ownsRow.lt (uh HO) b e).2)
   rw [hus] at hL
   have HLL:=hide hl
   have hkm:k + 1≤maxLen:=by unfold maxLen;omega
   have hkb:(k + 1) * 24≤140737488355328:=by omega
   have hws:=hbel.size
   clear hin hl hbel hbd hus
   go_wp2_with (first
    | (go_at_call 25;refine hC.mono ?_;rintro e w1 ⟨⟨q2,c2,rfl,hg⟩,b1⟩;simp only;have GG:=hide hg;have B1:=hide b1;have s1:=b1.size;clear hg b1)
    | (at_builtin;have bY:=(Below.refl w1.heap.size w1).alloc (Nat.le_refl _) (.cells #[.slice q2 l.length c2] 37);have hOA:=((uh HO).below (uh B1)).below bY;refine wpList_appG rowQ rfl _ _ rfl w.heap.size qm cm us ⟨w1.heap.size,0,none⟩ 1 [(q2,l.length,c2)] k 1 (k + 1) (uh HUS) rfl rfl rfl rfl hOA (q_src (q2,l.length,c2) rfl) hkm hkb (by simp only [size_al];omega) ?_;intro q3 c3 w3 ho3 hb3 hg3 hor3;have HO3:=hide ho3;have HF3:=hide ((((((uh HF).below (uh B1)).below bY).and ((growL_off (uh GG) hws (fun b e=>by have:=uh hL b e;omega)).below bY)).step hg3 hor3).imp (fun x h=>(show LitsAll cs (us ++ [(q2,l.length,c2)]) x from snocQ (uh HUS) (uh HLL) h.1 ⟨rfl,h.2⟩)));have HB3:=hide ((below_sub (uh HB) (below_sub (uh B1) bY)).trans hb3);clear ho3 hb3 hg3 hor3 bY hOA))
   exact ⟨⟨k + 1,q3,c3,us ++ [(q2,l.length,c2)],by omega,by go_num,rfl,by rw [List.length_append,uh HUS];rfl,HO3,HF3,uh HB3⟩,by simp [intOf];omega⟩
  ·have ki1:¬ (k:Int) < (cs.length:Int):=by omega
   have hkl:k=cs.length:=by omega
   subst hkl
   have HR:=hide (show CjsFrom w.heap.size wr qm cm cs from fun x su=>⟨us,(uh HO).ls.up (fun a e=>(uh HO).from a e) su,hus,(uh HF) x su.1 (fun b hb hlt _=>su.2 b hb hlt)⟩)
   clear hbel
   go_wp2
   go_ret
   exact ⟨⟨qm,cm,rfl,uh HR⟩,uh HB⟩
end Go.Proofs.Ytikhopiegaoacac

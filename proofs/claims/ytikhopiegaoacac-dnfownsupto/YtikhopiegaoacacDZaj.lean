/- trommelmem.SameLits and the law's same, of lists that hold the same literals. -/
import Derived.Test.YtikhopiegaoacacDDnfHolds
import Derived.Test.YtikhopiegaoacacDKept
import Derived.Shelf.Abstract
import Derived.Lib.QuietBelow
import Derived.Test.YtikhopiegaoacacDTwA
import Derived.Test.YtikhopiegaoacacDZai
namespace Go.Proofs.Ytikhopiegaoacac
open Go.RowKit Go.Sort

theorem LitsOf.at7 {w:World} {q:Option Addr} {c:Nat} {ls:List Lt} {j:Nat} {l:Lt} (h:LitsOf w q c ls) (hj:ls[j]? = some l) :
  ∃ b off u,q=some ⟨b,off,none⟩∧b < w.heap.size∧SlOf encI 1 w (Lv.qi u) u.ci l.ints∧SlOf encS 1 w u.qw u.cw l.words∧w.cell? ⟨b,off + j * 7,none⟩=some (.int .i64 l.kind)∧w.cell? ⟨b,off + j * 7 + 1,none⟩=some (.string l.attr)∧w.cell? ⟨b,off + j * 7 + 2,none⟩=some (.slice u.qi l.ints.length u.ci)∧w.cell? ⟨b,off + j * 7 + 3,none⟩=some (.slice u.qw l.words.length u.cw)∧w.cell? ⟨b,off + j * 7 + 4,none⟩=some (.int .i64 l.lo)∧w.cell? ⟨b,off + j * 7 + 5,none⟩=some (.int .i64 l.hi)∧w.cell? ⟨b,off + j * 7 + 6,none⟩=some (.bool l.neg):=by
 obtain ⟨b,off,u,hq,hb,⟨h1,h2,h3,h4,h5,h6,h7,h8,h9⟩,g0,g1,g2,g3,g4,g5,g6⟩:=h.at hj
 rw [h1] at g0
 rw [h2] at g1
 rw [h3] at g2
 rw [h4] at g3
 rw [h5] at g4
 rw [h6] at g5
 rw [h7] at g6
 exact ⟨b,off,u,hq,hb,h8,h9,g0,g1,g2,g3,g4,g5,g6⟩
set_option maxRecDepth 100000 in
set_option maxHeartbeats 4000000 in
theorem sameLits_eq (q:Option Addr) (c:Nat) (q':Option Addr) (c':Nat) (ls:List Lt) (w:World) (h1:LitsOf w q c ls) (h2:LitsOf w q' c' ls) (hb:litBound ls) (ln:ls.length≤1000000000) :
  Calls Try.prog 9 #[.slice q ls.length c,.slice q' ls.length c'] w fun e w'=>e=.returned (.bool true)∧Below w.heap.size w w':=by
 have mixed:Try.prog.follows .mixedOrders=true:=by kernel_rfl
 have en68:∀ args w,(callFunc 27 args).run Try.prog w=.ok (.enter 27 args) w:=enters_of Try.func27 (by kernel_rfl) rfl
 have H1:=hide h1
 have H2:=hide h2
 have HBD:=hide hb
 have hnn:((ls.length:Int) != (ls.length:Int))=false:=by simp
 have a0:(ls.length:Int)≤1000000000:=by omega
 clear h1 h2 hb
 go_enter Try.func9,Try.ntmps9
 go_wp2
 go_loopw [13] (fun i wr=>∃ k:Nat,k≤ls.length∧i=.int .i64 k∧Below w.heap.size w wr) (fun i _=>ls.length - (intOf i).toNat)
 case atStart=>exact ⟨0,by omega,rfl,Below.refl _ _⟩
 case round =>
  obtain ⟨k,hk,rfl,hbel⟩:=hrel
  have HB:=hide hbel
  by_cases hlt:k < ls.length
  ·obtain ⟨l,hx,hd⟩:=get_at hlt
   clear hd
   obtain ⟨b,off,u,hq,hbb,s1,t1,g0,g1,g2,g3,g4,g5,g6⟩:=((uh H1).below hbel).at7 hx
   obtain ⟨b',off',u',hq',hbb',s2,t2,f0,f1,f2,f3,f4,f5,f6⟩:=((uh H2).below hbel).at7 hx
   subst hq hq'
   obtain ⟨m1,m2⟩:=uh HBD l (List.mem_of_getElem? hx)
   have ki0:(0:Int)≤(k:Int):=by omega
   have ki1:(k:Int) < (ls.length:Int):=by omega
   have hn2:(l.neg != l.neg)=false:=by simp
   have q68:=fun (n:Nat) (os:Array Obj)=>samePred_eq l.kind l.attr l.ints l.words l.lo l.hi u.qi u.ci u.qw u.cw u'.qi u'.ci u'.qw u'.cw (grow (redrawn wr n) os) (s1.below (below_regrown wr n os)) (s2.below (below_regrown wr n os)) (t1.below (below_regrown wr n os)) (t2.below (below_regrown wr n os)) (by omega) (by omega)
   have G0:∀ n os,(grow (redrawn wr n) os).cell? ⟨b,off + k * 7,none⟩=some _:=cell_regrown g0
   have F0:∀ n os,(grow (redrawn wr n) os).cell? ⟨b',off' + k * 7,none⟩=some _:=cell_regrown f0
   have G1:∀ n os,(grow (redrawn wr n) os).cell? ⟨b,off + k * 7 + 1,none⟩=some _:=cell_regrown g1
   have F1:∀ n os,(grow (redrawn wr n) os).cell? ⟨b',off' + k * 7 + 1,none⟩=some _:=cell_regrown f1
   have G2:∀ n os,(grow (redrawn wr n) os).cell? ⟨b,off + k * 7 + 2,none⟩=some _:=cell_regrown g2
   have F2:∀ n os,(grow (redrawn wr n) os).cell? ⟨b',off' + k * 7 + 2,none⟩=some _:=cell_regrown f2
   have G3:∀ n os,(grow (redrawn wr n) os).cell? ⟨b,off + k * 7 + 3,none⟩=some _:=cell_regrown g3
   have F3:∀ n os,(grow (redrawn wr n) os).cell? ⟨b',off' + k * 7 + 3,none⟩=some _:=cell_regrown f3
   have G4:∀ n os,(grow (redrawn wr n) os).cell? ⟨b,off + k * 7 + 4,none⟩=some _:=cell_regrown g4
   have F4:∀ n os,(grow (redrawn wr n) os).cell? ⟨b',off' + k * 7 + 4,none⟩=some _:=cell_regrown f4
   have G5:∀ n os,(grow (redrawn wr n) os).cell? ⟨b,off + k * 7 + 5,none⟩=some _:=cell_regrown g5
   have F5:∀ n os,(grow (redrawn wr n) os).cell? ⟨b',off' + k * 7 + 5,none⟩=some _:=cell_regrown f5
   have G6:∀ n os,(grow (redrawn wr n) os).cell? ⟨b,off + k * 7 + 6,none⟩=some _:=cell_regrown g6
   have F6:∀ n os,(grow (redrawn wr n) os).cell? ⟨b',off' + k * 7 + 6,none⟩=some _:=cell_regrown f6
   clear s1 s2 t1 t2 g0 g1 g2 g3 g4 g5 g6 f0 f1 f2 f3 f4 f5 f6 hbel hx
   go_wp2
   refine wp_region_quiet_below (by assumption) (by kernel_rfl) ?_
   repeat (go_big_quiet_step (first | (go_at_fn 27;refine Calls.regrown_of (q68 _ _))))
   refine wpQuiet_nil ?_
   intro _ hw'
   obtain ⟨⟨dq,osq⟩,hw''⟩:=hw'
   subst hw''
   go_wp2
   exact ⟨⟨k + 1,by omega,by go_num,below_sub (uh HB) (below_regrown _ _ _)⟩,by simp [intOf];omega⟩
  ·have ki1:¬ (k:Int) < (ls.length:Int):=by omega
   go_wp2
   go_ret
   exact ⟨rfl,uh HB⟩
set_option maxRecDepth 100000 in
set_option maxHeartbeats 4000000 in
theorem sameCj_eq (q:Option Addr) (c:Nat) (q':Option Addr) (c':Nat) (cs:List (List Lt)) (w:World) (h1:CjsOf w q c cs) (h2:CjsOf w q' c' cs) (hb:∀ ls ∈ cs,litBound ls∧ls.length≤1000000000) (ln:cs.length≤1000000000) :
  Calls Try.prog 11 #[.slice q cs.length c,.slice q' cs.length c'] w fun e w'=>e=.returned (.bool true)∧Below w.heap.size w w':=by
 have mixed:Try.prog.follows .mixedOrders=true:=by kernel_rfl
 have en70:∀ args w,(callFunc 9 args).run Try.prog w=.ok (.enter 9 args) w:=enters_of Try.func9 (by kernel_rfl) rfl
 have H1:=hide h1
 have H2:=hide h2
 have HBD:=hide hb
 have hnn:((cs.length:Int) != (cs.length:Int))=false:=by simp
 have a0:(cs.length:Int)≤1000000000:=by omega
 clear h1 h2 hb
 go_enter Try.func11,Try.ntmps11
 go_wp2
 go_loopw [13] (fun i wr=>∃ k:Nat,k≤cs.length∧i=.int .i64 k∧Below w.heap.size w wr) (fun i _=>cs.length - (intOf i).toNat)
 case atStart=>exact ⟨0,by omega,rfl,Below.refl _ _⟩
 case round =>
  obtain ⟨k,hk,rfl,hbel⟩:=hrel
  have HB:=hide hbel
  by_cases hlt:k < cs.length
  ·obtain ⟨ls,hx,hd⟩:=get_at hlt
   clear hd
   obtain ⟨b,off,q1,c1,hq,hbb,l1,g0⟩:=((uh H1).below hbel).at hx
   obtain ⟨b',off',q2,c2,hq',hbb',l2,f0⟩:=((uh H2).below hbel).at hx
   subst hq hq'
   obtain ⟨m1,m2⟩:=uh HBD ls (List.mem_of_getElem? hx)
   have ki0:(0:Int)≤(k:Int):=by omega
   have ki1:(k:Int) < (cs.length:Int):=by omega
   have q70:=fun (n:Nat) (os:Array Obj)=>sameLits_eq q1 c1 q2 c2 ls (grow (redrawn wr n) os) (l1.below (below_regrown wr n os)) (l2.below (below_regrown wr n os)) m1 m2
   have G0:∀ n os,(grow (redrawn wr n) os).cell? ⟨b,off + k,none⟩=some _:=cell_regrown g0
   have F0:∀ n os,(grow (redrawn wr n) os).cell? ⟨b',off' + k,none⟩=some _:=cell_regrown f0
   clear l1 l2 g0 f0 hbel hx m1
   go_wp2
   refine wp_region_quiet_below (by assumption) (by kernel_rfl) ?_
   repeat (go_big_quiet_step (first | (go_at_fn 9;refine Calls.regrown_of (q70 _ _))))
   refine wpQuiet_nil ?_
   intro _ hw'
   obtain ⟨⟨dq,osq⟩,hw''⟩:=hw'
   subst hw''
   go_wp2
   exact ⟨⟨k + 1,by omega,by go_num,below_sub (uh HB) (below_regrown _ _ _)⟩,by simp [intOf];omega⟩
  ·have ki1:¬ (k:Int) < (cs.length:Int):=by omega
   go_wp2
   go_ret
   exact ⟨rfl,uh HB⟩
end Go.Proofs.Ytikhopiegaoacac
namespace Go.Proofs.Ytikhopiegaoacac
open Go.RowKit Go.Sort

/-- A row of conjunctions. -/
def rqOb (q:Option Addr) (c:Nat) (us:List (Option Addr × Nat × Nat)):Ob:=⟨(q.map (·.block)).getD 0,(q.map (·.block + 1)).getD 0,fun W=>OwnK encQ 37 1 0 W q c us⟩
theorem Objs.rowQ {L:List Ob} {w:World} {q:Option Addr} {c B:Nat} {us:List (Option Addr × Nat × Nat)} (h:Objs L w) (hr:OwnK encQ 37 1 B w q c us) (ho:Out L q):Objs (L ++ [rqOb q c us]) w:=by
 have hr0:OwnK encQ 37 1 0 w q c us:=hr.upF (fun _ _=>Nat.zero_le _) (fun _ _ _=>rfl)
 refine ⟨List.pairwise_append.2 ⟨h.1,List.pairwise_singleton _ _,fun o hL p hp=>?_⟩,fun o hL=>?_⟩
 ·rw [List.mem_singleton.1 hp]
  cases q with
  | none=>exact Or.inr (Nat.zero_le _)
  | some a =>
   show o.hi≤a.block ∨ a.block + 1≤o.lo
   have:=ho a rfl o hL
   omega
 ·rcases List.mem_append.1 hL with hL | hL
  ·exact h.2 o hL
  ·rw [List.mem_singleton.1 hL]
   cases q with
   | none =>
    refine ⟨Nat.le_refl _,Nat.zero_le _,fun w' _ _=>?_⟩
    rcases hr0.2 with ⟨h0,h1⟩ | ⟨g,cp,cur,h0,_⟩
    ·exact ⟨hr0.1,Or.inl ⟨h0,h1⟩⟩
    ·cases h0
   | some a =>
    have hlt:a.block < w.heap.size:=by
     rcases hr0.2 with ⟨h0,_⟩ | ⟨g,cp,cur,h0,_,h2,_⟩
     ·cases h0
     ·injection h0 with h0
      injection h0 with h0
      subst h0
      exact blk_lt h2
    refine ⟨Nat.le_succ _,hlt,fun w' hs he=>?_⟩
    have hs':a.block + 1≤w'.heap.size:=hs
    have he':w'.heap[a.block]? = w.heap[a.block]?:=he a.block (Nat.le_refl _) (Nat.lt_succ_self _)
    refine ⟨hr0.1, ?_⟩
    rcases hr0.2 with h0 | ⟨g,cp,cur,h0,h1,h2,h3⟩
    ·exact Or.inl h0
    ·refine Or.inr ⟨g,cp,cur,h0,h1, ?_,h3⟩
     injection h0 with h4
     injection h4 with h4
     subst h4
     exact he'.trans h2
/-- Conjunctions, all in one range. -/
def csOb (lo hi:Nat) (q:Option Addr) (c:Nat) (cs:List (List Lt)):Ob:=⟨lo,hi,fun W=>CjsOf W q c cs⟩
theorem CjsFrom.st {B:Nat} {w:World} {q:Option Addr} {c:Nat} {cs:List (List Lt)} (h:CjsFrom B w q c cs) (hl:B≤w.heap.size):St B w.heap.size (csOb B w.heap.size q c cs).P w :=
 ⟨hl,Nat.le_refl _,fun w' hs he=>h w' ⟨hs,he⟩⟩
theorem CjsNew.st {B:Nat} {w:World} {q:Option Addr} {c:Nat} {cs:List (List Lt)} (h:CjsNew B w q c cs) (hl:B≤w.heap.size):St B w.heap.size (csOb B w.heap.size q c cs).P w:=by
 obtain ⟨us,ms,h1,h2,h3,h4,_,h5⟩:=h
 refine ⟨hl,Nat.le_refl _,fun w' hs he=>⟨us,(h3.upF h3.from he).ls,h1,fun j u ls hj hx=>?_⟩⟩
 obtain ⟨lo,hi,hlo,hm⟩:=h5 j u ls hj hx
 have hst:=h4.2 (cjOb lo hi u ls) (List.mem_of_getElem? hm)
 have hg:GrowL lo w' u.1 u.2.2 u.2.1 ls:=(hst.all w' (Nat.le_trans hst.top hs) fun b g1 g2=>he b (Nat.le_trans hlo g1) (Nat.lt_of_lt_of_le g2 hst.top)).1
 exact ⟨hg.1.symm,hg.lits⟩
/-- Objects that were made later. -/
theorem Objs.join {L1 L2:List Ob} {w w':World} (h:Objs L1 w) (hb:Below w.heap.size w w') (k:Objs L2 w') (hl:∀ o ∈ L2,w.heap.size≤o.lo):Objs (L1 ++ L2) w':=by
 have h':=h.below hb
 refine ⟨List.pairwise_append.2 ⟨h.1,k.1,fun o ho p hp=>Or.inl (Nat.le_trans (h.2 o ho).top (hl p hp))⟩,fun o ho=>?_⟩
 rcases List.mem_append.1 ho with ho | ho
 ·exact h'.2 o ho
 ·exact k.2 o ho
/-- All of Expand's objects lie from B on. -/
theorem famQ_from {B:Nat} {cs:List (List Lt)} {us:List (Option Addr × Nat × Nat)} {ms:List Ob} (h:FamQ B cs us ms) (h1:us.length=cs.length) (h2:ms.length=cs.length):∀ o ∈ ms,B≤o.lo:=by
 intro o ho
 obtain ⟨j,hj,rfl⟩:=List.mem_iff_getElem.1 ho
 obtain ⟨lo,hi,hb,hm⟩:=h j _ _ (List.getElem?_eq_getElem (by omega)) (List.getElem?_eq_getElem (by omega))
 rw [List.getElem?_eq_getElem hj] at hm
 injection hm with hm
 show B≤(ms[j]).lo
 rw [hm]
 exact hb
end Go.Proofs.Ytikhopiegaoacac

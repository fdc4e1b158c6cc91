/- Literals in memory; what dnf.Holds and dnf.Any return. -/
import Derived.Test.YtikhopiegaoacacDDnfPlain
import Derived.Test.YtikhopiegaoacacDEvEval
import Derived.Test.YtikhopiegaoacacDCloneTree
import Derived.Lib.QuietBelow
import Derived.BigQuiet
import Derived.Shelf.Abstract
namespace Go.Proofs.Ytikhopiegaoacac
open Go.RowKit Go.Sort

/-- A literal as it lies in memory. -/
structure Lv where
 kind:Int
 attr:ByteArray
 qi:Option Addr
 ni:Nat
 ci:Nat
 qw:Option Addr
 nw:Nat
 cw:Nat
 lo:Int
 hi:Int
 neg:Bool
instance:Inhabited Lv:=⟨⟨0,⟨#[]⟩,none,0,0,none,0,0,0,0,false⟩⟩
def encL (u:Lv):List Value:=[.int .i64 u.kind,.string u.attr,.slice u.qi u.ni u.ci,.slice u.qw u.nw u.cw,.int .i64 u.lo,.int .i64 u.hi,.bool u.neg]
def LitIn (w:World) (u:Lv) (l:Lt):Prop:=u.kind=l.kind∧u.attr=l.attr∧u.ni=l.ints.length∧u.nw=l.words.length∧u.lo=l.lo∧u.hi=l.hi∧u.neg=l.neg∧SlOf encI 1 w u.qi u.ci l.ints∧SlOf encS 1 w u.qw u.cw l.words
theorem LitIn.keep {w w':World} {u:Lv} {l:Lt} (h:LitIn w u l) (hb:Below w.heap.size w w'):LitIn w' u l:=by
 obtain ⟨h1,h2,h3,h4,h5,h6,h7,h8,h9⟩:=h
 exact ⟨h1,h2,h3,h4,h5,h6,h7,h8.below hb,h9.below hb⟩
/-- A list of literals in memory. -/
def LitsOf (w:World) (q:Option Addr) (c:Nat) (ls:List Lt):Prop:=∃ us,SlOf encL 7 w q c us∧us.length=ls.length∧∀ (j:Nat) (u:Lv) (l:Lt),us[j]? = some u→ls[j]? = some l→LitIn w u l
theorem LitsOf.below {w w':World} {q:Option Addr} {c:Nat} {ls:List Lt} (h:LitsOf w q c ls) (hb:Below w.heap.size w w'):LitsOf w' q c ls:=by
 obtain ⟨us,h1,h2,h3⟩:=h
 exact ⟨us,h1.below hb,h2,fun j u l hj hl=>(h3 j u l hj hl).keep hb⟩
theorem LitsOf.at {w:World} {q:Option Addr} {c:Nat} {ls:List Lt} {j:Nat} {l:Lt} (h:LitsOf w q c ls) (hj:ls[j]? = some l) :
  ∃ b off u,q=some ⟨b,off,none⟩∧b < w.heap.size∧LitIn w u l∧w.cell? ⟨b,off + j * 7,none⟩=some (.int .i64 u.kind)∧w.cell? ⟨b,off + j * 7 + 1,none⟩=some (.string u.attr)∧w.cell? ⟨b,off + j * 7 + 2,none⟩=some (.slice u.qi u.ni u.ci)∧w.cell? ⟨b,off + j * 7 + 3,none⟩=some (.slice u.qw u.nw u.cw)∧w.cell? ⟨b,off + j * 7 + 4,none⟩=some (.int .i64 u.lo)∧w.cell? ⟨b,off + j * 7 + 5,none⟩=some (.int .i64 u.hi)∧w.cell? ⟨b,off + j * 7 + 6,none⟩=some (.bool u.neg):=by
 obtain ⟨us,h1,h2,h3⟩:=h
 have hl:j < ls.length:=(List.getElem?_eq_some_iff.1 hj).1
 obtain ⟨u,hu,_⟩:=get_at (l:=us) (k:=j) (by omega)
 obtain ⟨b,off,hq,hb,hc⟩:=h1.2.2.2.at hu
 exact ⟨b,off,u,hq,hb,h3 j u l hu hj,hc 0 (by omega),hc 1 (by omega),hc 2 (by omega),hc 3 (by omega),hc 4 (by omega),hc 5 (by omega),hc 6 (by omega)⟩
def litBound (ls:List Lt):Prop:=∀ l ∈ ls,l.ints.length≤1000000000∧l.words.length≤1000000000
theorem of7' {w:World} {M:Nat} {a0 a1 a2 a3 a4 a5 a6:Value} {T:TypeId} (h:w.heap[M]? = some (.cells #[a0,a1,a2,a3,a4,a5,a6] T (0,0))):w.cell? ⟨M,0,none⟩=some a0∧w.cell? ⟨M,1,none⟩=some a1∧w.cell? ⟨M,2,none⟩=some a2∧w.cell? ⟨M,3,none⟩=some a3∧w.cell? ⟨M,4,none⟩=some a4∧w.cell? ⟨M,5,none⟩=some a5∧w.cell? ⟨M,6,none⟩=some a6:=by
 refine ⟨?_, ?_, ?_, ?_, ?_, ?_, ?_⟩ <;> (unfold World.cell?;simp [h])
theorem holds_lit (u:Lv) (l:Lt) (qe:Option Addr) (ce:Nat) (ev:List Pr) (w:World) (h:LitIn w u l) (h3:SlOf encP 4 w qe ce ev) (l1:l.ints.length≤1000000000) (l2:l.words.length≤1000000000) (l3:ev.length≤100000000000000) :
  Calls Try.prog 35 #[.agg #[.int .i64 u.kind,.string u.attr,.slice u.qi u.ni u.ci,.slice u.qw u.nw u.cw,.int .i64 u.lo,.int .i64 u.hi],.slice qe ev.length ce] w fun e w'=>e=.returned (.bool (holdsB l.kind l.attr l.ints l.words l.lo l.hi ev))∧Below w.heap.size w w':=by
 obtain ⟨a1,a2,a3,a4,a5,a6,a7,a8,a9⟩:=h
 rw [a1,a2,a3,a4,a5,a6]
 exact holds_any l.kind l.attr u.qi u.ci l.ints u.qw u.cw l.words l.lo l.hi qe ce ev w a8 a9 h3 (by omega) (by omega) l3
set_option maxRecDepth 100000 in
set_option maxHeartbeats 8000000 in
theorem dnfHolds_any (qe:Option Addr) (ce:Nat) (ev:List Pr) (q:Option Addr) (c:Nat) (ls:List Lt) (w:World) (he:SlOf encP 4 w qe ce ev) (hl:LitsOf w q c ls) (hb:litBound ls) (l3:ev.length≤100000000000000) (ln:ls.length≤1000000000) :
  Calls Try.prog 19 #[.slice qe ev.length ce,.slice q ls.length c] w fun e w'=>e=.returned (.bool (ls.all (ltH ev)))∧Below w.heap.size w w':=by
 have mixed:Try.prog.follows .mixedOrders=true:=by kernel_rfl
 have en23:∀ args w,(callFunc 35 args).run Try.prog w=.ok (.enter 35 args) w:=enters_of Try.func35 (by kernel_rfl) rfl
 have a0:(ls.length:Int)≤1000000000:=by omega
 have HE:=hide he
 have HL:=hide hl
 have HBD:=hide hb
 clear he hl hb
 go_enter Try.func19,Try.ntmps19
 go_wp2
 go_loopw [9] (fun i wr=>∃ k:Nat,k≤ls.length∧i=.int .i64 k∧(∀ (j:Nat) (l:Lt),j < k→ls[j]? = some l→ltH ev l=true)∧Below w.heap.size w wr) (fun i _=>ls.length - (intOf i).toNat)
 case atStart=>exact ⟨0,by omega,rfl,fun j l h=>absurd h (by omega),Below.refl _ _⟩
 case round =>
  obtain ⟨k,hkk,rfl,hall,hbel⟩:=hrel
  have HB:=hide hbel
  have HALL:=hide hall
  by_cases hlt:k < ls.length
  ·obtain ⟨l,hl,hld⟩:=get_at hlt
   clear hld
   obtain ⟨b,off,u,hq,hbb,hin,g0,g1,g2,g3,g4,g5,g6⟩:=((uh HL).below hbel).at hl
   subst hq
   have hbd:=uh HBD l (List.mem_of_getElem? hl)
   have ki0:(0:Int)≤(k:Int):=by omega
   have ki1:(k:Int) < (ls.length:Int):=by omega
   obtain ⟨G,hG⟩:∃ G,u.neg=G:=⟨_,rfl⟩
   rw [hG] at g6
   obtain ⟨Z,HZ⟩:∃ Z,wr.alloc (.cells #[.int .i64 u.kind,.string u.attr,.slice u.qi u.ni u.ci,.slice u.qw u.nw u.cw,.int .i64 u.lo,.int .i64 u.hi,.bool G] 51)=Z:=⟨_,rfl⟩
   have bZ:Below wr.heap.size wr Z:=by rw [← HZ];exact (Below.refl _ _).alloc (Nat.le_refl _) _
   have zk:Z.heap[wr.heap.size]? = some (.cells #[.int .i64 u.kind,.string u.attr,.slice u.qi u.ni u.ci,.slice u.qw u.nw u.cw,.int .i64 u.lo,.int .i64 u.hi,.bool G] 51 (0,0)):=by rw [← HZ];exact box_nw _ _
   obtain ⟨zc0,zc1,zc2,zc3,zc4,zc5,zc6⟩:=of7' zk
   have hneg:G=l.neg:=by rw [← hG];exact hin.2.2.2.2.2.2.1
   obtain ⟨H,hH⟩:∃ H,holdsB l.kind l.attr l.ints l.words l.lo l.hi ev=H:=⟨_,rfl⟩
   have q23:=fun (n:Nat) (os:Array Obj)=>holds_lit u l qe ce ev (grow (redrawn Z n) os) (hin.keep (below_sub bZ (below_regrown Z n os))) ((uh HE).below (below_sub hbel (below_sub bZ (below_regrown Z n os)))) hbd.1 hbd.2 l3
   rw [hH] at q23
   have HLT:=hide (show ltH ev l=(H != G) by unfold ltH;rw [hH,hneg])
   have HLL:=hide hl
   have z0:∀ n os,(grow (redrawn Z n) os).cell? ⟨wr.heap.size,0,none⟩=some (.int .i64 u.kind):=cell_regrown zc0
   have z1:∀ n os,(grow (redrawn Z n) os).cell? ⟨wr.heap.size,1,none⟩=some (.string u.attr):=cell_regrown zc1
   have z2:∀ n os,(grow (redrawn Z n) os).cell? ⟨wr.heap.size,2,none⟩=some (.slice u.qi u.ni u.ci):=cell_regrown zc2
   have z3:∀ n os,(grow (redrawn Z n) os).cell? ⟨wr.heap.size,3,none⟩=some (.slice u.qw u.nw u.cw):=cell_regrown zc3
   have z4:∀ n os,(grow (redrawn Z n) os).cell? ⟨wr.heap.size,4,none⟩=some (.int .i64 u.lo):=cell_regrown zc4
   have z5:∀ n os,(grow (redrawn Z n) os).cell? ⟨wr.heap.size,5,none⟩=some (.int .i64 u.hi):=cell_regrown zc5
   have z6:∀ n os,(grow (redrawn Z n) os).cell? ⟨wr.heap.size,6,none⟩=some (.bool G):=cell_regrown zc6
   have BZ:=hide bZ
   clear hin hl hbel hall zk zc0 zc1 zc2 zc3 zc4 zc5 zc6 bZ hneg hH hbd hG
   go_wp2
   refine wp_region_quiet_below (by assumption) (by kernel_rfl) ?_
   repeat (go_big_quiet_step (first | (go_at_fn 35;refine Calls.regrown_of (q23 _ _))))
   refine wpQuiet_nil ?_
   intro _ hw'
   obtain ⟨⟨dq,osq⟩,hw''⟩:=hw'
   subst hw''
   clear q23 z0 z1 z2 z3 z4 z5 z6 g0 g1 g2 g3 g4 g5 g6 HZ
   have BF:=hide (below_sub (uh HB) (below_sub (uh BZ) (below_regrown Z dq osq)))
   by_cases hc:H=G
   ·subst hc
    have HF:=hide (show ls.all (ltH ev)=false by
     rw [List.all_eq_false]
     exact ⟨l,List.mem_of_getElem? (uh HLL),by rw [uh HLT];simp⟩)
    cases H
    all_goals
     go_wp2
     go_ret
     exact ⟨by rw [uh HF];rfl,uh BF⟩
   ·have HT:=hide (show ltH ev l=true by rw [uh HLT];simp [hc])
    cases H <;> cases G
    all_goals first | (exact absurd rfl hc) | skip
    all_goals
     clear hc
     go_wp2
     go_roundw
     case rel =>
      refine ⟨k + 1,by omega,by go_num,fun j y hj hy=>?_,uh BF⟩
      by_cases e:j=k
      ·subst e;rw [uh HLL] at hy;cases hy;exact uh HT
      ·exact uh HALL j y (by omega) hy
     case measure=>simp [intOf];omega
  ·have ki1:¬ (k:Int) < (ls.length:Int):=by omega
   clear hall hbel
   go_wp2
   go_ret
   refine ⟨?_,uh HB⟩
   have:ls.all (ltH ev)=true:=by
    rw [List.all_eq_true]
    intro l hl
    obtain ⟨j,hj⟩:=List.getElem?_of_mem hl
    exact uh HALL j l (by have:=(List.getElem?_eq_some_iff.1 hj).1;omega) hj
   rw [this];rfl
/-- A list of lists of literals in memory. -/
def encQ (s:Option Addr × Nat × Nat):List Value:=[.slice s.1 s.2.1 s.2.2]
def CjsOf (w:World) (q:Option Addr) (c:Nat) (cs:List (List Lt)):Prop:=∃ us:List (Option Addr × Nat × Nat),SlOf encQ 1 w q c us∧us.length=cs.length∧∀ (j:Nat) (u:Option Addr × Nat × Nat) (ls:List Lt),us[j]? = some u→cs[j]? = some ls→u.2.1=ls.length∧LitsOf w u.1 u.2.2 ls
theorem CjsOf.below {w w':World} {q:Option Addr} {c:Nat} {cs:List (List Lt)} (h:CjsOf w q c cs) (hb:Below w.heap.size w w'):CjsOf w' q c cs:=by
 obtain ⟨us,h1,h2,h3⟩:=h
 exact ⟨us,h1.below hb,h2,fun j u l hj hl=>⟨(h3 j u l hj hl).1,(h3 j u l hj hl).2.below hb⟩⟩
theorem CjsOf.at {w:World} {q:Option Addr} {c:Nat} {cs:List (List Lt)} {j:Nat} {ls:List Lt} (h:CjsOf w q c cs) (hj:cs[j]? = some ls) :
  ∃ b off q1 c1,q=some ⟨b,off,none⟩∧b < w.heap.size∧LitsOf w q1 c1 ls∧w.cell? ⟨b,off + j,none⟩=some (.slice q1 ls.length c1):=by
 obtain ⟨us,h1,h2,h3⟩:=h
 have hl:j < cs.length:=(List.getElem?_eq_some_iff.1 hj).1
 obtain ⟨u,hu,_⟩:=get_at (l:=us) (k:=j) (by omega)
 obtain ⟨b,off,hq,hb,hc⟩:=h1.2.2.2.at hu
 obtain ⟨e1,e2⟩:=h3 j u ls hu hj
 have h0:=hc 0 (by omega)
 rw [Nat.mul_one,Nat.add_zero] at h0
 refine ⟨b,off,u.1,u.2.2,hq,hb,e2, ?_⟩
 rw [← e1];exact h0
set_option maxRecDepth 100000 in
set_option maxHeartbeats 8000000 in
theorem dnfAny_any (qe:Option Addr) (ce:Nat) (ev:List Pr) (q:Option Addr) (c:Nat) (cs:List (List Lt)) (w:World) (he:SlOf encP 4 w qe ce ev) (hl:CjsOf w q c cs) (hb:∀ ls ∈ cs,litBound ls∧ls.length≤1000000000) (l3:ev.length≤100000000000000) (ln:cs.length≤1000000000) :
  Calls Try.prog 18 #[.slice qe ev.length ce,.slice q cs.length c] w fun e w'=>e=.returned (.bool (anyC ev cs))∧Below w.heap.size w w':=by
 have a0:(cs.length:Int)≤1000000000:=by omega
 have HE:=hide he
 have HL:=hide hl
 have HBD:=hide hb
 clear he hl hb
 go_enter Try.func18,Try.ntmps18
 go_wp2
 go_loopw [9] (fun i wr=>∃ k:Nat,k≤cs.length∧i=.int .i64 k∧(∀ (j:Nat) (l:List Lt),j < k→cs[j]? = some l→l.all (ltH ev)=false)∧Below w.heap.size w wr) (fun i _=>cs.length - (intOf i).toNat)
 case atStart=>exact ⟨0,by omega,rfl,fun j l h=>absurd h (by omega),Below.refl _ _⟩
 case round =>
  obtain ⟨k,hkk,rfl,hall,hbel⟩:=hrel
  have HB:=hide hbel
  have HALL:=hide hall
  by_cases hlt:k < cs.length
  ·obtain ⟨l,hl,hld⟩:=get_at hlt
   clear hld
   obtain ⟨b,off,q1,c1,hq,hbb,hin,g0⟩:=((uh HL).below hbel).at hl
   subst hq
   have hbd:=uh HBD l (List.mem_of_getElem? hl)
   have ki0:(0:Int)≤(k:Int):=by omega
   have ki1:(k:Int) < (cs.length:Int):=by omega
   have hC:=dnfHolds_any qe ce ev q1 c1 l wr ((uh HE).below hbel) hin hbd.1 l3 hbd.2
   have HLL:=hide hl
   clear hin hl hbel hall hbd
   cases hc:l.all (ltH ev)
   ·rw [hc] at hC
    go_wp2_with (go_at_call 19;refine hC.mono ?_;rintro e w2 ⟨rfl,b2⟩;have B2:=hide b2;clear b2)
    go_roundw
    case rel =>
     refine ⟨k + 1,by omega,by go_num,fun j y hj hy=>?_,below_sub (uh HB) (uh B2)⟩
     by_cases e:j=k
     ·subst e;rw [uh HLL] at hy;cases hy;exact hc
     ·exact uh HALL j y (by omega) hy
    case measure=>simp [intOf];omega
   ·rw [hc] at hC
    go_wp2_with (go_at_call 19;refine hC.mono ?_;rintro e w2 ⟨rfl,b2⟩;have B2:=hide b2;clear b2)
    go_ret
    have:anyC ev cs=true:=List.any_eq_true.2 ⟨l,List.mem_of_getElem? (uh HLL),hc⟩
    exact ⟨by rw [this];rfl,below_sub (uh HB) (uh B2)⟩
  ·have ki1:¬ (k:Int) < (cs.length:Int):=by omega
   clear hall hbel
   go_wp2
   go_ret
   have:anyC ev cs=false:=by
    unfold anyC
    rw [List.any_eq_false]
    intro l hl
    obtain ⟨j,hj⟩:=List.getElem?_of_mem hl
    have:=uh HALL j l (by have:=(List.getElem?_eq_some_iff.1 hj).1;omega) hj
    simp [this]
   exact ⟨by rw [this];rfl,uh HB⟩
end Go.Proofs.Ytikhopiegaoacac

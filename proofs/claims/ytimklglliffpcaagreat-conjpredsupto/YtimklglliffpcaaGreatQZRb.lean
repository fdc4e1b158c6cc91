/- What the reference's Get, Check of a value and begins return. -/
import Derived.Test.YtimklglliffpcaaGreatQEvHolds
import Derived.Test.YtimklglliffpcaaGreatQZRp
import Derived.BigQuiet
import Derived.Test.YtimklglliffpcaaGreatQZRc
import Derived.Test.YtimklglliffpcaaGreatQZRa
namespace Go.Proofs.YtimklglliffpcaaGreat
open Go.RowKit Go.Sort
set_option maxHeartbeats 1000000 in
theorem Ek (k n:Int) (s:ByteArray) (w:World) :
  Calls Tryz.prog 132 #[.agg #[.int .i64 k,.int .i64 n,.string s]] w fun e w'=>e=.returned (.int .i64 (rx k n s))/\Below w.heap.size w w':=by
 by_cases h1:k=1
 ·subst h1
  go_enter Tryz.func132,Tryz.ntmps132
  go_wp2
  all_goals (go_ret;refine ⟨jg ?_,(Below.refl _ _).alloc (Nat.le_refl _) _⟩)
  ·exact (Ce rfl (by assumption) (by assumption) (by assumption)).symm
  ·exact (va rfl (by rw [<- nx];simp [*])).symm
  ·exact (va rfl (by omega)).symm
  ·exact (va rfl (by omega)).symm
 ·by_cases h2:k=2/\n=0
  ·obtain ⟨rfl,rfl⟩:=h2
   go_enter Tryz.func132,Tryz.ntmps132
   go_wp2
   all_goals (go_ret;refine ⟨jg ?_,(Below.refl _ _).alloc (Nat.le_refl _) _⟩)
   ·exact (Cc rfl rfl (by assumption)).symm
   ·exact (xu rfl (by omega)).symm
  ·have hn:rx k n s=1:=xu (by simpa using h1) (by omega)
   have Hn:Hid (rx k n s=1):=hn
   clear hn
   by_cases h3:k=2
   ·have h4:n ≠ 0:=fun h=>h2 ⟨h3,h⟩
    subst h3
    clear h2
    go_enter Tryz.func132,Tryz.ntmps132
    go_wp2
    all_goals (go_ret;exact ⟨jg Hn.out.symm,(Below.refl _ _).alloc (Nat.le_refl _) _⟩)
   ·clear h2
    go_enter Tryz.func132,Tryz.ntmps132
    go_wp2
    all_goals (go_ret;exact ⟨jg Hn.out.symm,(Below.refl _ _).alloc (Nat.le_refl _) _⟩)
set_option maxHeartbeats 1000000 in
theorem Jr (p:Option Addr) (cap:Nat) (l:List Pr) (s:ByteArray) (w:World) (hm:l.length<=140737488355328) (hA:SlOf yq 4 w p cap l) :
  Calls Tryz.prog 131 #[.slice p l.length cap,.string s] w fun e w'=>e=.returned (Gj (qr s l))/\Below w.heap.size w w':=by
 have HA:=d9 hA
 clear hA
 go_enter Tryz.func131,Tryz.ntmps131
 go_wp2
 go_loopw [6] (fun i wr=>∃ k:Nat,k<=l.length/\i=.int .i64 k/\Below w.heap.size w wr/\Box wr w.heap.size (0,0,⟨#[]⟩)/\qr s l=qr s (l.drop k)) (fun i _=>l.length - (intOf i).toNat)
 case atStart=>exact ⟨0,by omega,rfl,(Below.refl _ _).alloc (Nat.le_refl _) _,Box.new w (0,0,⟨#[]⟩) 84,by simp⟩
 case round =>
  obtain ⟨k,hk,rfl,hbel,hbox,heq⟩:=hrel
  have Heq:=d9 heq
  clear heq
  by_cases hlt:k < l.length
  ·obtain ⟨x,hx,hd⟩:=je hlt
   obtain ⟨bb,off,rfl,hbb,g0,g1,g2,g3⟩:=zat ((uh HA).below hbel) hx
   have Hd:=d9 hd
   clear hd
   have ki0:(0:Int)<=(k:Int):=by omega
   have ki1:(k:Int) < (l.length:Int):=by omega
   have Hx:=d9 hx
   clear hx
   cases hq:(x.name.toList == s.toList) with
   | true =>
    have Hy:=d9 (Lw (uh Heq) (uh Hd) hq)
    have Hb:=d9 hbox
    obtain ⟨r0,r1,r2,fr0,sz0⟩:=hbox
    simp only at r0 r1 r2
    go_wp2
    obtain ⟨z0,z1,z2,_,_⟩:=(uh Hb).put (x.kind,x.int,x.word)
    unfold Zn at z0 z1 z2
    refine bodyPost_ret (v:=.tuple #[.agg #[.int .i64 x.kind,.int .i64 x.int,.string x.word],.bool true]) (by simp [results,Tryz.results131,go_sem,r0,r1,r2]) rfl ⟨by rw [uh Hy];rfl, ?_⟩
    exact hbel.trans (tk wr w.heap.size (x.kind,x.int,x.word) (Nat.le_refl _))
   | false =>
    have Hy:=d9 (Vy (uh Heq) (uh Hd) hq)
    have Hb:=d9 hbox
    clear hbox
    go_wp2
    go_roundw
    case rel=>exact ⟨k + 1,by omega,by go_num,hbel,uh Hb,uh Hy⟩
    case measure=>simp [intOf];omega
  ·obtain rfl:k=l.length:=by omega
   have Hy:=d9 (Pe (uh Heq) hlt)
   have Hb:=d9 hbox
   obtain ⟨r0,r1,r2,fr0,sz0⟩:=hbox
   simp only at r0 r1 r2
   go_wp2
   have hb3:=(uh Hb).put (0,0,⟨#[]⟩)
   obtain ⟨z0,z1,z2,_,_⟩:=hb3
   unfold Zn at z0 z1 z2
   refine bodyPost_ret (v:=.tuple #[.agg #[.int .i64 0,.int .i64 0,.string ⟨#[]⟩],.bool false]) (by simp [results,Tryz.results131,go_sem,r0,r1,r2]) rfl ⟨by rw [uh Hy];rfl, ?_⟩
   exact hbel.trans (tk _ w.heap.size (0,0,⟨#[]⟩) (Nat.le_refl _))
set_option maxHeartbeats 1000000 in
theorem K1 (s p:ByteArray) (w:World):Calls Tryz.prog 169 #[.string s,.string p] w fun e w'=>e=.returned (.bool (ll s p))/\Below w.heap.size w w':=by
 by_cases hl:p.size<=s.size
 ·have h1:(p.size:Int)<=(s.size:Int):=by omega
  go_enter Tryz.func169,Tryz.ntmps169
  go_wp2
  go_ret
  exact ⟨jb (by simp [ll,hl]),Below.refl _ _⟩
 ·have h1:¬ (p.size:Int)<=(s.size:Int):=by omega
  go_enter Tryz.func169,Tryz.ntmps169
  go_wp2
  go_ret
  exact ⟨jb (by simp [ll,hl]),Below.refl _ _⟩
end Go.Proofs.YtimklglliffpcaaGreat
namespace Go.Proofs.YtimklglliffpcaaGreat
open Go.RowKit Go.Sort
theorem zcc {w Y:World} {o1 o2:Obj} (h:(w.alloc o1).alloc o2=Y):Y.heap[w.heap.size]? = some o1/\Y.heap[w.heap.size + 1]? = some o2/\Below w.heap.size w Y/\Y.heap.size=w.heap.size + 2:=by
 have b1:Below (w.alloc o1).heap.size (w.alloc o1) Y:=by rw [<- h];exact (Below.refl _ _).alloc (Nat.le_refl _) _
 have n1:=jf w o1
 have n2:=jf (w.alloc o1) o2
 rw [h] at n2
 have e:(w.alloc o1).heap.size=w.heap.size + 1:=by simp
 rw [e] at n2
 refine ⟨(b1.block _ (jc n1)).trans n1,n2, ?_,by rw [<- h];simp⟩
 exact d8 ((Below.refl _ _).alloc (Nat.le_refl _) _) b1
set_option maxRecDepth 100000 in
set_option maxHeartbeats 4000000 in
theorem Zm (kind:Int) (attr:ByteArray) (qi:Option Addr) (ci:Nat) (ints:List Int) (qw:Option Addr) (cw:Nat) (words:List ByteArray) (lo hi:Int) (y:Pr) (w:World) (h1:SlOf jq 1 w qi ci ints) (h2:SlOf jy 1 w qw cw words) (hkd:kind=3) :
  Calls Tryz.prog 133 #[.agg #[.int .i64 kind,.string attr,.slice qi ints.length ci,.slice qw words.length cw,.int .i64 lo,.int .i64 hi],.agg #[.int .i64 y.kind,.int .i64 y.int,.string y.word]] w fun e w'=>e=.returned (.bool ((y.kind == 1) && (decide (lo<=y.int) && decide (y.int<=hi))))/\Below w.heap.size w w':=by
 have mixed:Tryz.prog.follows .mixedOrders=true:=by kernel_rfl
 obtain ⟨X,HX⟩:∃ X,(w.alloc (.cells #[.int .i64 kind,.string attr,.slice qi ints.length ci,.slice qw words.length cw,.int .i64 lo,.int .i64 hi] 26)).alloc (.cells #[.int .i64 y.kind,.int .i64 y.int,.string y.word] 84)=X:=⟨_,rfl⟩
 obtain ⟨hX0,hX1,hwX,hXs⟩:=zcc HX
 obtain ⟨x0,x1,x2,x3,x4,x5⟩:=kx hX0
 obtain ⟨z0,z1,z2⟩:=Fc hX1
 have HX0:=d9 hX0
 have HX1:=d9 hX1
 have HWX:=d9 hwX
 have H1:=d9 h1
 have H2:=d9 h2
 clear hX0 hX1 hwX hXs h1 h2
 subst hkd
 cases hyk:(y.kind == 1) with
 | true =>
  cases hlo:decide (lo<=y.int) with
  | true =>
   cases hhi:decide (y.int<=hi) with
   | true =>
    go_enter Tryz.func133,Tryz.ntmps133
    go_wp2
    go_ret
    exact ⟨jb (by simp),uh HWX⟩
   | false =>
    go_enter Tryz.func133,Tryz.ntmps133
    go_wp2
    go_ret
    exact ⟨jb (by simp),uh HWX⟩
  | false =>
   go_enter Tryz.func133,Tryz.ntmps133
   go_wp2
   go_ret
   exact ⟨jb (by simp),uh HWX⟩
 | false =>
  go_enter Tryz.func133,Tryz.ntmps133
  go_wp2
  go_ret
  exact ⟨jb (by simp),uh HWX⟩
set_option maxRecDepth 100000 in
set_option maxHeartbeats 4000000 in
theorem Z1 (attr:ByteArray) (qi:Option Addr) (ci:Nat) (ints:List Int) (b off:Nat) (cw:Nat) (x:ByteArray) (lo hi:Int) (y:Pr) (w:World) (h1:SlOf jq 1 w qi ci ints) (h2:SlOf jy 1 w (some ⟨b,off,none⟩) cw [x]) (hlt:b < w.heap.size) (hc:w.cell? ⟨b,off,none⟩=some (.string x)) :
  Calls Tryz.prog 133 #[.agg #[.int .i64 4,.string attr,.slice qi ints.length ci,.slice (some ⟨b,off,none⟩) 1 cw,.int .i64 lo,.int .i64 hi],.agg #[.int .i64 y.kind,.int .i64 y.int,.string y.word]] w fun e w'=>e=.returned (.bool ((y.kind == 2) && ll y.word x))/\Below w.heap.size w w':=by
 have mixed:Tryz.prog.follows .mixedOrders=true:=by kernel_rfl
 obtain ⟨X,HX⟩:∃ X,(w.alloc (.cells #[.int .i64 4,.string attr,.slice qi ints.length ci,.slice (some ⟨b,off,none⟩) 1 cw,.int .i64 lo,.int .i64 hi] 26)).alloc (.cells #[.int .i64 y.kind,.int .i64 y.int,.string y.word] 84)=X:=⟨_,rfl⟩
 obtain ⟨hX0,hX1,hwX,hXs⟩:=zcc HX
 obtain ⟨x0,x1,x2,x3,x4,x5⟩:=kx hX0
 obtain ⟨z0,z1,z2⟩:=Fc hX1
 have HX0:=d9 hX0
 have HX1:=d9 hX1
 have HWX:=d9 hwX
 have H1:=d9 h1
 have H2:=d9 h2
 clear hX0 hX1 hwX hXs h1 h2
 have HC3:=d9 (((uh HWX).cell (p:=⟨b,off,none⟩) (by exact hlt)).trans hc)
 clear hc hlt
 have r40:=fun (n:Nat) (os:Array Obj)=>K1 y.word x (grow (redrawn X n) os)
 obtain ⟨pb,hpb⟩:∃ pb,ll y.word x=pb:=⟨_,rfl⟩
 rw [hpb] at r40
 have HPB:=d9 hpb
 clear hpb
 have en40:∀ args w,(callFunc 169 args).run Tryz.prog w=.ok (.enter 169 args) w:=enters_of Tryz.func169 (by kernel_rfl) rfl
 cases hyk:(y.kind == 2) with
 | true =>
  go_enter Tryz.func133,Tryz.ntmps133
  go_wp2
  have f0:∀ n os,(grow (redrawn X n) os).cell? ⟨w.heap.size + 1,0,none⟩=some (.int .i64 y.kind):=cell_regrown z0
  have f2:∀ n os,(grow (redrawn X n) os).cell? ⟨w.heap.size + 1,2,none⟩=some (.string y.word):=cell_regrown z2
  have f3:∀ n os,(grow (redrawn X n) os).cell? ⟨w.heap.size,3,none⟩=some (.slice (some ⟨b,off,none⟩) 1 cw):=cell_regrown x3
  have f4:∀ n os,(grow (redrawn X n) os).cell? ⟨b,off,none⟩=some (.string x):=cell_regrown (uh HC3)
  clear x0 x1 x2 x3 x4 x5 z0 z1 z2
  refine wp_region_quiet_below (by assumption) (by kernel_rfl) ?_
  repeat (go_big_quiet_step (first | (go_at_fn 169;refine Calls.regrown_of (r40 _ _))))
  refine wpQuiet_nil ?_
  intro _ hw'
  obtain ⟨⟨dq,osq⟩,hw''⟩:=hw'
  subst hw''
  go_wp2
  go_ret
  exact ⟨jb (by rw [uh HPB];simp),d8 (uh HWX) (below_regrown _ _ _)⟩
 | false =>
  go_enter Tryz.func133,Tryz.ntmps133
  go_wp2
  have f0:∀ n os,(grow (redrawn X n) os).cell? ⟨w.heap.size + 1,0,none⟩=some (.int .i64 y.kind):=cell_regrown z0
  have f2:∀ n os,(grow (redrawn X n) os).cell? ⟨w.heap.size + 1,2,none⟩=some (.string y.word):=cell_regrown z2
  have f3:∀ n os,(grow (redrawn X n) os).cell? ⟨w.heap.size,3,none⟩=some (.slice (some ⟨b,off,none⟩) 1 cw):=cell_regrown x3
  have f4:∀ n os,(grow (redrawn X n) os).cell? ⟨b,off,none⟩=some (.string x):=cell_regrown (uh HC3)
  clear x0 x1 x2 x3 x4 x5 z0 z1 z2
  refine wp_region_quiet_below (by assumption) (by kernel_rfl) ?_
  repeat (go_big_quiet_step (first | (go_at_fn 169;refine Calls.regrown_of (r40 _ _))))
  refine wpQuiet_nil ?_
  intro _ hw'
  obtain ⟨⟨dq,osq⟩,hw''⟩:=hw'
  subst hw''
  go_wp2
  go_ret
  exact ⟨jb (by simp),d8 (uh HWX) (below_regrown _ _ _)⟩
theorem Ht {α:Type} {f:α->Bool} {b:Bool} {l:List α} (h:∀ (j:Nat) (x:α),j < l.length->l[j]? = some x->(b && f x)=false):(b && l.any f)=false:=by
 cases b
 ·rfl
 ·rw [Bool.true_and]
  exact Cr (fun j x hj hx=>by have:=h j x hj hx;simpa using this)
set_option maxRecDepth 100000 in
set_option maxHeartbeats 4000000 in
theorem Hg (kind:Int) (attr:ByteArray) (qi:Option Addr) (ci:Nat) (ints:List Int) (qw:Option Addr) (cw:Nat) (words:List ByteArray) (lo hi:Int) (y:Pr) (w:World) (h1:SlOf jq 1 w qi ci ints) (h2:SlOf jy 1 w qw cw words) (l1:ints.length<=100000000000000) (l2:words.length<=100000000000000) (k3:(kind == 3)=false) (k4:(kind == 4)=false) :
  Calls Tryz.prog 133 #[.agg #[.int .i64 kind,.string attr,.slice qi ints.length ci,.slice qw words.length cw,.int .i64 lo,.int .i64 hi],.agg #[.int .i64 y.kind,.int .i64 y.int,.string y.word]] w fun e w'=>e=.returned (.bool (((y.kind == 1) && Cm y.int ints) || ((y.kind == 2) && vx y.word words)))/\Below w.heap.size w w':=by
 have mixed:Tryz.prog.follows .mixedOrders=true:=by kernel_rfl
 obtain ⟨X,HX⟩:∃ X,(w.alloc (.cells #[.int .i64 kind,.string attr,.slice qi ints.length ci,.slice qw words.length cw,.int .i64 lo,.int .i64 hi] 26)).alloc (.cells #[.int .i64 y.kind,.int .i64 y.int,.string y.word] 84)=X:=⟨_,rfl⟩
 obtain ⟨hX0,hX1,hwX,hXs⟩:=zcc HX
 obtain ⟨x0,x1,x2,x3,x4,x5⟩:=kx hX0
 obtain ⟨z0,z1,z2⟩:=Fc hX1
 have HX0:=d9 hX0
 have HX1:=d9 hX1
 have HWX:=d9 hwX
 have H1:=d9 h1
 have H2:=d9 h2
 clear hX0 hX1 hwX hXs h1 h2
 go_enter Tryz.func133,Tryz.ntmps133
 go_wp2
 go_loopw [5] (fun i wr=>∃ k:Nat,k<=ints.length/\i=.int .i64 k/\Below X.heap.size X wr/\Hid (∀ (j:Nat) (x:Int),j < k->ints[j]? = some x->((y.kind == 1) && (y.int == x))=false)) (fun i _=>ints.length - (intOf i).toNat)
 case atStart=>exact ⟨0,by omega,rfl,Below.refl _ _,d9 (fun j x hj=>by omega)⟩
 case round =>
  obtain ⟨k,hk,rfl,hbel,HNo⟩:=hrel
  have BB:=d9 hbel
  obtain ⟨p0,p1,p2,p3,p4,p5⟩:=kx ((hbel.block _ (jc (uh HX0))).trans (uh HX0))
  obtain ⟨q0,q1,q2⟩:=Fc ((hbel.block _ (jc (uh HX1))).trans (uh HX1))
  clear hbel
  by_cases hlt:k < ints.length
  ·obtain ⟨x,hx,hd⟩:=je hlt
   clear hd
   obtain ⟨bb,off,rfl,hbb,g0⟩:=mh ((uh H1).below (d8 (uh HWX) (uh BB))) hx
   have ki0:(0:Int)<=(k:Int):=by omega
   have ki1:(k:Int) < (ints.length:Int):=by omega
   have Hx:=d9 hx
   clear hx
   go_wp2
   have f0:∀ n os,(grow (redrawn wr n) os).cell? ⟨w.heap.size + 1,0,none⟩=some (.int .i64 y.kind):=cell_regrown q0
   have f1:∀ n os,(grow (redrawn wr n) os).cell? ⟨w.heap.size + 1,1,none⟩=some (.int .i64 y.int):=cell_regrown q1
   have f2:∀ n os,(grow (redrawn wr n) os).cell? ⟨w.heap.size,2,none⟩=some (.slice (some ⟨bb,off,none⟩) ints.length ci):=cell_regrown p2
   have f3:=cell_regrown g0
   clear p0 p1 p2 p3 p4 p5 q0 q1 q2 g0
   cases hk1:(y.kind == 1) with
   | true =>
    cases hq:(x == y.int) with
    | true =>
     have HY:=d9 (show Cm y.int ints=true from Dh (uh Hx) (by rw [<- hq];exact BEq.comm))
     refine wp_region_quiet_below (by assumption) (by kernel_rfl) ?_
     repeat (go_big_quiet_step (fail))
     refine wpQuiet_nil ?_
     intro _ hw'
     obtain ⟨⟨dq,osq⟩,hw''⟩:=hw'
     subst hw''
     go_wp2
     go_ret
     exact ⟨jb (by rw [uh HY,hk1];simp),d8 (uh HWX) (d8 (uh BB) (below_regrown _ _ _))⟩
    | false =>
     have HN2:Hid (∀ (j:Nat) (u:Int),j < k + 1->ints[j]? = some u->((y.kind == 1) && (y.int == u))=false):=d9 (fun j u hj hu=>by
      by_cases e:j=k
      ·subst e;rw [uh Hx] at hu;cases hu;rw [show (y.int == x)=false from by rw [<- hq];exact BEq.comm];simp
      ·exact (uh HNo) j u (by omega) hu)
     refine wp_region_quiet_below (by assumption) (by kernel_rfl) ?_
     repeat (go_big_quiet_step (fail))
     refine wpQuiet_nil ?_
     intro _ hw'
     obtain ⟨⟨dq,osq⟩,hw''⟩:=hw'
     subst hw''
     go_wp2
     go_roundw
     case rel=>exact ⟨k + 1,by omega,by go_num,d8 (uh BB) (below_regrown _ _ _),HN2⟩
     case measure=>simp [intOf];omega
   | false =>
    have HN2:Hid (∀ (j:Nat) (u:Int),j < k + 1->ints[j]? = some u->((y.kind == 1) && (y.int == u))=false):=d9 (fun j u hj hu=>by rw [hk1];rfl)
    refine wp_region_quiet_below (by assumption) (by kernel_rfl) ?_
    repeat (go_big_quiet_step (fail))
    refine wpQuiet_nil ?_
    intro _ hw'
    obtain ⟨⟨dq,osq⟩,hw''⟩:=hw'
    subst hw''
    go_wp2
    go_roundw
    case rel=>exact ⟨k + 1,by omega,by go_num,d8 (uh BB) (below_regrown _ _ _),HN2⟩
    case measure=>simp [intOf];omega
  ·have ki1:¬ (k:Int) < (ints.length:Int):=by omega
   have HE1:=d9 (show ((y.kind == 1) && Cm y.int ints)=false from Ht (fun j x hj hx=>(uh HNo) j x (by omega) hx))
   clear HNo
   go_wp2
   have BV:=BB
   clear p0 p1 p2 p3 p4 p5 q0 q1 q2 BB hlt ki1 hk
   go_loopw [6] (fun i wr=>∃ k:Nat,k<=words.length/\i=.int .i64 k/\Below X.heap.size X wr/\Hid (∀ (j:Nat) (x:ByteArray),j < k->words[j]? = some x->((y.kind == 2) && (y.word.toList == x.toList))=false)) (fun i _=>words.length - (intOf i).toNat)
   case atStart=>exact ⟨0,by omega,rfl,uh BV,d9 (fun j x hj=>by omega)⟩
   case round =>
    obtain ⟨k,hk,rfl,hbel,HNo⟩:=hrel
    have BB:=d9 hbel
    obtain ⟨p0,p1,p2,p3,p4,p5⟩:=kx ((hbel.block _ (jc (uh HX0))).trans (uh HX0))
    obtain ⟨q0,q1,q2⟩:=Fc ((hbel.block _ (jc (uh HX1))).trans (uh HX1))
    clear hbel
    by_cases hlt:k < words.length
    ·obtain ⟨x,hx,hd⟩:=je hlt
     clear hd
     obtain ⟨bb,off,rfl,hbb,g0⟩:=j6 ((uh H2).below (d8 (uh HWX) (uh BB))) hx
     have ki0:(0:Int)<=(k:Int):=by omega
     have ki1:(k:Int) < (words.length:Int):=by omega
     have Hx:=d9 hx
     clear hx
     go_wp2
     have f0:∀ n os,(grow (redrawn wr n) os).cell? ⟨w.heap.size + 1,0,none⟩=some (.int .i64 y.kind):=cell_regrown q0
     have f1:∀ n os,(grow (redrawn wr n) os).cell? ⟨w.heap.size + 1,2,none⟩=some (.string y.word):=cell_regrown q2
     have f2:∀ n os,(grow (redrawn wr n) os).cell? ⟨w.heap.size,3,none⟩=some (.slice (some ⟨bb,off,none⟩) words.length cw):=cell_regrown p3
     have f3:=cell_regrown g0
     clear p0 p1 p2 p3 p4 p5 q0 q1 q2 g0
     cases hk1:(y.kind == 2) with
     | true =>
      cases hq:(x.toList == y.word.toList) with
      | true =>
       have HY:=d9 (show vx y.word words=true from Dh (uh Hx) (by rw [<- hq];exact BEq.comm))
       refine wp_region_quiet_below (by assumption) (by kernel_rfl) ?_
       repeat (go_big_quiet_step (fail))
       refine wpQuiet_nil ?_
       intro _ hw'
       obtain ⟨⟨dq,osq⟩,hw''⟩:=hw'
       subst hw''
       go_wp2
       go_ret
       exact ⟨jb (by rw [uh HY,hk1];simp),d8 (uh HWX) (d8 (uh BB) (below_regrown _ _ _))⟩
      | false =>
       have HN2:Hid (∀ (j:Nat) (u:ByteArray),j < k + 1->words[j]? = some u->((y.kind == 2) && (y.word.toList == u.toList))=false):=d9 (fun j u hj hu=>by
        by_cases e:j=k
        ·subst e;rw [uh Hx] at hu;cases hu;rw [show (y.word.toList == x.toList)=false from by rw [<- hq];exact BEq.comm];simp
        ·exact (uh HNo) j u (by omega) hu)
       refine wp_region_quiet_below (by assumption) (by kernel_rfl) ?_
       repeat (go_big_quiet_step (fail))
       refine wpQuiet_nil ?_
       intro _ hw'
       obtain ⟨⟨dq,osq⟩,hw''⟩:=hw'
       subst hw''
       go_wp2
       go_roundw
       case rel=>exact ⟨k + 1,by omega,by go_num,d8 (uh BB) (below_regrown _ _ _),HN2⟩
       case measure=>simp [intOf];omega
     | false =>
      have HN2:Hid (∀ (j:Nat) (u:ByteArray),j < k + 1->words[j]? = some u->((y.kind == 2) && (y.word.toList == u.toList))=false):=d9 (fun j u hj hu=>by rw [hk1];rfl)
      refine wp_region_quiet_below (by assumption) (by kernel_rfl) ?_
      repeat (go_big_quiet_step (fail))
      refine wpQuiet_nil ?_
      intro _ hw'
      obtain ⟨⟨dq,osq⟩,hw''⟩:=hw'
      subst hw''
      go_wp2
      go_roundw
      case rel=>exact ⟨k + 1,by omega,by go_num,d8 (uh BB) (below_regrown _ _ _),HN2⟩
      case measure=>simp [intOf];omega
    ·have ki1:¬ (k:Int) < (words.length:Int):=by omega
     have HE2:=d9 (show ((y.kind == 2) && vx y.word words)=false from Ht (fun j x hj hx=>(uh HNo) j x (by omega) hx))
     clear HNo
     go_wp2
     go_ret
     exact ⟨jb (by rw [uh HE1,uh HE2];rfl),d8 (uh HWX) (uh BB)⟩
end Go.Proofs.YtimklglliffpcaaGreat
namespace Go.Proofs.YtimklglliffpcaaGreat
open Go.RowKit Go.Sort
theorem Bz {attr:ByteArray} {ints:List Int} {words:List ByteArray} {lo hi:Int} (h:kg 1 attr ints words lo hi=true):words=[]:=by
 cases words with
 | nil=>rfl
 | cons a l=>simp [kg,l8] at h
theorem Dv {attr:ByteArray} {ints:List Int} {words:List ByteArray} {lo hi:Int} (h:kg 2 attr ints words lo hi=true):ints=[]:=by
 cases ints with
 | nil=>rfl
 | cons a l=>simp [kg,l8] at h
theorem Rc (kind:Int) (attr:ByteArray) (qi:Option Addr) (ci:Nat) (ints:List Int) (qw:Option Addr) (cw:Nat) (words:List ByteArray) (lo hi:Int) (y:Pr) (w:World) (h1:SlOf jq 1 w qi ci ints) (h2:SlOf jy 1 w qw cw words) (l1:ints.length<=100000000000000) (l2:words.length<=100000000000000) (hpB:kg kind attr ints words lo hi=true) :
  Calls Tryz.prog 133 #[.agg #[.int .i64 kind,.string attr,.slice qi ints.length ci,.slice qw words.length cw,.int .i64 lo,.int .i64 hi],.agg #[.int .i64 y.kind,.int .i64 y.int,.string y.word]] w fun e w'=>e=.returned (.bool (mc kind ints words lo hi y))/\Below w.heap.size w w':=by
 rcases Be hpB with hk | hk | hk | ⟨hk,x,rfl⟩
 ·have:=Hg kind attr qi ci ints qw cw words lo hi y w h1 h2 l1 l2 (by subst hk;rfl) (by subst hk;rfl)
  subst hk
  obtain rfl:=Bz hpB
  unfold mc
  simpa [vx] using this
 ·have:=Hg kind attr qi ci ints qw cw words lo hi y w h1 h2 l1 l2 (by subst hk;rfl) (by subst hk;rfl)
  subst hk
  obtain rfl:=Dv hpB
  unfold mc
  simpa [Cm] using this
 ·have:=Zm kind attr qi ci ints qw cw words lo hi y w h1 h2 hk
  unfold mc;rwa [if_neg (by omega),if_neg (by omega),if_pos hk]
 ·subst hk
  obtain ⟨b,off,rfl,hlt,hc⟩:=j6 h2 (j:=0) rfl
  exact Z1 attr qi ci ints b off cw x lo hi y w h1 h2 hlt hc
set_option maxRecDepth 100000 in
set_option maxHeartbeats 4000000 in
theorem Ey (kind:Int) (attr:ByteArray) (qi:Option Addr) (ci:Nat) (ints:List Int) (qw:Option Addr) (cw:Nat) (words:List ByteArray) (lo hi:Int) (qe:Option Addr) (ce:Nat) (ev:List Pr) (w:World) (h1:SlOf jq 1 w qi ci ints) (h2:SlOf jy 1 w qw cw words) (l1:ints.length<=100000000000000) (l2:words.length<=100000000000000) (h3:SlOf yq 4 w qe ce ev) (l3:ev.length<=100000000000000) :
  Calls Tryz.prog 83 #[.agg #[.int .i64 kind,.string attr,.slice qi ints.length ci,.slice qw words.length cw,.int .i64 lo,.int .i64 hi],.slice qe ev.length ce] w fun e w'=>e=.returned (.bool (mr kind attr ints words lo hi ev))/\Below w.heap.size w w':=by
 obtain ⟨X,HX⟩:∃ X,w.alloc (.cells #[.int .i64 kind,.string attr,.slice qi ints.length ci,.slice qw words.length cw,.int .i64 lo,.int .i64 hi] 26)=X:=⟨_,rfl⟩
 have hX0:X.heap[w.heap.size]? = some (.cells #[.int .i64 kind,.string attr,.slice qi ints.length ci,.slice qw words.length cw,.int .i64 lo,.int .i64 hi] 26 (0,0)):=by rw [<- HX];exact jf _ _
 have hwX:Below w.heap.size w X:=by rw [<- HX];exact (Below.refl _ _).alloc (Nat.le_refl _) _
 obtain ⟨x0,x1,x2,x3,x4,x5⟩:=kx hX0
 have hz0:=jc hX0
 have hg:=Jr qe ce ev attr X (by omega) (h3.below hwX)
 have hp:=fun (W:World) (hb:Below w.heap.size w W)=>mv kind attr qi ci ints qw cw words lo hi W (h1.below hb) (h2.below hb) (by omega) (by omega)
 obtain ⟨ky,ny,sy,th,hgv,hB⟩:∃ ky ny sy th,Gj (qr attr ev)=.tuple #[.agg #[.int .i64 ky,.int .i64 ny,.string sy],.bool th]/\mr kind attr ints words lo hi ev=(kg kind attr ints words lo hi && (th && (decide (rx ky ny sy=0) && mc kind ints words lo hi ⟨⟨#[]⟩,ky,ny,sy⟩))):=by
  cases hgt:qr attr ev with
  | none=>exact ⟨0,0,⟨#[]⟩,false,rfl,by simp [mr,hgt]⟩
  | some y=>exact ⟨y.kind,y.int,y.word,true,rfl,by simp [mr,hgt,mc]⟩
 rw [hgv] at hg
 have ht:=fun (W:World) (hb:Below w.heap.size w W) (hpB:kg kind attr ints words lo hi=true)=>Rc kind attr qi ci ints qw cw words lo hi ⟨⟨#[]⟩,ky,ny,sy⟩ W (h1.below hb) (h2.below hb) l1 l2 hpB
 have hc:=fun (W:World)=>Ek ky ny sy W
 rw [hB]
 have HT:=d9 ht
 have HX0:=d9 hX0
 have HWX:=d9 hwX
 clear h1 h2 h3 hX0 hwX ht hgv hB
 cases hpB:kg kind attr ints words lo hi with
 | false=>
  go_enter Tryz.func83,Tryz.ntmps83
  go_wp2_with (first
   | (go_at_call 131;refine hg.mono ?_;rintro e w1 ⟨rfl,b1⟩;simp only;have hh:=(b1.block _ hz0).trans (uh HX0);have HH1:=d9 hh;have B1:=d9 (d8 (uh HWX) b1);obtain ⟨c0,c1,c2,c3,c4,c5⟩:=kx hh;have sz1:=jc hh;clear b1 hh x0 x1 x2 x3 x4 x5)
   | (go_at_call 51;refine kj ?_;intro Y hY;have bx:Box Y w1.heap.size (ky,ny,sy):=(by rw [hY];exact Box.new w1 (ky,ny,sy) 84);have bY:Below w1.heap.size w1 Y:=(by rw [hY];exact (Below.refl _ _).alloc (Nat.le_refl _) _);clear hY;refine (hp Y (d8 (uh B1) bY)).mono ?_;rw [hpB];rintro e w2 ⟨rfl,b2⟩;have hh:=((d8 bY b2).block _ (jc (uh HH1))).trans (uh HH1);have HH2:=d9 hh;have B2:=d9 (d8 (uh B1) (d8 bY b2));have BX2:=d9 (bx.below b2);obtain ⟨d0,d1,d2,d3,d4,d5⟩:=kx hh;obtain ⟨v0,v1,v2,_,_⟩:=uh BX2;simp only at v0 v1 v2;clear b2 hh bx bY c0 c1 c2 c3 c4 c5))
  go_ret
  exact ⟨jb (by simp),uh B2⟩
 | true =>
  cases th with
  | false=>
   go_enter Tryz.func83,Tryz.ntmps83
   go_wp2_with (first
    | (go_at_call 131;refine hg.mono ?_;rintro e w1 ⟨rfl,b1⟩;simp only;have hh:=(b1.block _ hz0).trans (uh HX0);have HH1:=d9 hh;have B1:=d9 (d8 (uh HWX) b1);obtain ⟨c0,c1,c2,c3,c4,c5⟩:=kx hh;have sz1:=jc hh;clear b1 hh x0 x1 x2 x3 x4 x5)
    | (go_at_call 51;refine kj ?_;intro Y hY;have bx:Box Y w1.heap.size (ky,ny,sy):=(by rw [hY];exact Box.new w1 (ky,ny,sy) 84);have bY:Below w1.heap.size w1 Y:=(by rw [hY];exact (Below.refl _ _).alloc (Nat.le_refl _) _);clear hY;refine (hp Y (d8 (uh B1) bY)).mono ?_;rw [hpB];rintro e w2 ⟨rfl,b2⟩;have hh:=((d8 bY b2).block _ (jc (uh HH1))).trans (uh HH1);have HH2:=d9 hh;have B2:=d9 (d8 (uh B1) (d8 bY b2));have BX2:=d9 (bx.below b2);obtain ⟨d0,d1,d2,d3,d4,d5⟩:=kx hh;obtain ⟨v0,v1,v2,_,_⟩:=uh BX2;simp only at v0 v1 v2;clear b2 hh bx bY c0 c1 c2 c3 c4 c5))
   go_ret
   exact ⟨jb (by simp),uh B2⟩
  | true =>
   rcases Vv ky ny sy with hck | hck
   ·have hn:decide (rx ky ny sy=0)=true:=by rw [hck];rfl
    rw [hn]
    clear hn
    obtain ⟨tv,htv⟩:∃ tv,mc kind ints words lo hi ⟨⟨#[]⟩,ky,ny,sy⟩=tv:=⟨_,rfl⟩
    rw [htv]
    have HTV:=d9 htv
    clear htv
    go_enter Tryz.func83,Tryz.ntmps83
    go_wp2_with (first
     | (go_at_call 131;refine hg.mono ?_;rintro e w1 ⟨rfl,b1⟩;simp only;have hh:=(b1.block _ hz0).trans (uh HX0);have HH1:=d9 hh;have B1:=d9 (d8 (uh HWX) b1);obtain ⟨c0,c1,c2,c3,c4,c5⟩:=kx hh;have sz1:=jc hh;clear b1 hh x0 x1 x2 x3 x4 x5)
     | (go_at_call 51;refine kj ?_;intro Y hY;have bx:Box Y w1.heap.size (ky,ny,sy):=(by rw [hY];exact Box.new w1 (ky,ny,sy) 84);have bY:Below w1.heap.size w1 Y:=(by rw [hY];exact (Below.refl _ _).alloc (Nat.le_refl _) _);clear hY;refine (hp Y (d8 (uh B1) bY)).mono ?_;rw [hpB];rintro e w2 ⟨rfl,b2⟩;have hh:=((d8 bY b2).block _ (jc (uh HH1))).trans (uh HH1);have HH2:=d9 hh;have B2:=d9 (d8 (uh B1) (d8 bY b2));have BX2:=d9 (bx.below b2);obtain ⟨d0,d1,d2,d3,d4,d5⟩:=kx hh;obtain ⟨v0,v1,v2,_,_⟩:=uh BX2;simp only at v0 v1 v2;clear b2 hh bx bY c0 c1 c2 c3 c4 c5)
     | (go_at_call 132;refine (hc _).mono ?_;rw [hck];rintro e w3 ⟨rfl,b3⟩;have hh:=(b3.block _ (jc (uh HH2))).trans (uh HH2);have HH3:=d9 hh;have B3:=d9 (d8 (uh B2) b3);have BX3:=d9 ((uh BX2).below b3);obtain ⟨e0,e1,e2,e3,e4,e5⟩:=kx hh;clear v0 v1 v2;obtain ⟨v0,v1,v2,_,_⟩:=uh BX3;simp only at v0 v1 v2;clear b3 hh d0 d1 d2 d3 d4 d5)
     | (go_at_call 133;refine ((uh HT) _ (uh B3) hpB).mono ?_;rw [uh HTV];rintro e w4 ⟨rfl,b4⟩;have B4:=d9 (d8 (uh B3) b4);clear b4))
    go_ret
    exact ⟨jb (by simp),uh B4⟩
   ·have hn:decide (rx ky ny sy=0)=false:=by rw [hck];rfl
    rw [hn]
    clear hn
    go_enter Tryz.func83,Tryz.ntmps83
    go_wp2_with (first
     | (go_at_call 131;refine hg.mono ?_;rintro e w1 ⟨rfl,b1⟩;simp only;have hh:=(b1.block _ hz0).trans (uh HX0);have HH1:=d9 hh;have B1:=d9 (d8 (uh HWX) b1);obtain ⟨c0,c1,c2,c3,c4,c5⟩:=kx hh;have sz1:=jc hh;clear b1 hh x0 x1 x2 x3 x4 x5)
     | (go_at_call 51;refine kj ?_;intro Y hY;have bx:Box Y w1.heap.size (ky,ny,sy):=(by rw [hY];exact Box.new w1 (ky,ny,sy) 84);have bY:Below w1.heap.size w1 Y:=(by rw [hY];exact (Below.refl _ _).alloc (Nat.le_refl _) _);clear hY;refine (hp Y (d8 (uh B1) bY)).mono ?_;rw [hpB];rintro e w2 ⟨rfl,b2⟩;have hh:=((d8 bY b2).block _ (jc (uh HH1))).trans (uh HH1);have HH2:=d9 hh;have B2:=d9 (d8 (uh B1) (d8 bY b2));have BX2:=d9 (bx.below b2);obtain ⟨d0,d1,d2,d3,d4,d5⟩:=kx hh;obtain ⟨v0,v1,v2,_,_⟩:=uh BX2;simp only at v0 v1 v2;clear b2 hh bx bY c0 c1 c2 c3 c4 c5)
     | (go_at_call 132;refine (hc _).mono ?_;rw [hck];rintro e w3 ⟨rfl,b3⟩;have hh:=(b3.block _ (jc (uh HH2))).trans (uh HH2);have HH3:=d9 hh;have B3:=d9 (d8 (uh B2) b3);have BX3:=d9 ((uh BX2).below b3);obtain ⟨e0,e1,e2,e3,e4,e5⟩:=kx hh;clear v0 v1 v2;obtain ⟨v0,v1,v2,_,_⟩:=uh BX3;simp only at v0 v1 v2;clear b3 hh d0 d1 d2 d3 d4 d5))
    go_ret
    exact ⟨jb (by simp),uh B3⟩
end Go.Proofs.YtimklglliffpcaaGreat
namespace Go.Proofs.YtimklglliffpcaaGreat
open Go.RowKit Go.Sort Go.Shelf
set_option maxHeartbeats 1000000 in
set_option maxRecDepth 100000 in
theorem Ae (u:Pv) (p:Pd) (w:World) (hk:u.kind=p.kind):Calls Tryz.prog 52 #[.agg #[.int .i64 u.kind,.string u.attr,.slice u.qi u.ni u.ci,.slice u.qw u.nw u.cw,.int .i64 u.lo,.int .i64 u.hi]] w fun e w'=>e=.returned (.bool (xa p))/\Below w.heap.size w w':=by
 have HE:=d9 (show xa p=(decide (u.kind=1) || decide (u.kind=3)) by unfold xa;rw [hk])
 clear hk
 by_cases h1:u.kind=1
 ·rw [decide_eq_true h1,Bool.true_or] at HE
  have h1':(u.kind == 1)=true:=by simp [h1]
  clear h1
  go_enter Tryz.func52,Tryz.ntmps52
  go_wp2
  go_ret
  exact ⟨jb (uh HE).symm,(Below.refl _ _).alloc (Nat.le_refl _) _⟩
 ·have h1':(u.kind == 1)=false:=by simpa using h1
  rw [decide_eq_false h1,Bool.false_or] at HE
  clear h1
  by_cases h3:u.kind=3
  ·rw [decide_eq_true h3] at HE
   have h3':(u.kind == 3)=true:=by simp [h3]
   clear h3
   go_enter Tryz.func52,Tryz.ntmps52
   go_wp2
   go_ret
   exact ⟨jb (uh HE).symm,(Below.refl _ _).alloc (Nat.le_refl _) _⟩
  ·rw [decide_eq_false h3] at HE
   have h3':(u.kind == 3)=false:=by simpa using h3
   clear h3
   go_enter Tryz.func52,Tryz.ntmps52
   go_wp2
   go_ret
   exact ⟨jb (uh HE).symm,(Below.refl _ _).alloc (Nat.le_refl _) _⟩
set_option maxHeartbeats 1000000 in
set_option maxRecDepth 100000 in
theorem Vf (a:ByteArray) (k n:Int) (s:ByteArray) (w:World):Calls Tryz.prog 109 #[.string a,.agg #[.int .i64 k,.int .i64 n,.string s]] w fun e w'=>(∃ q c,e=.returned (.slice q 1 c)/\SlOf yq 4 w' q c [⟨a,k,n,s⟩])/\Below w.heap.size w w':=by
 obtain ⟨X,HX⟩:∃ X,(w.alloc (.cells #[.int .i64 k,.int .i64 n,.string s] 84)).alloc (.cells #[.string a,.int .i64 k,.int .i64 n,.string s] 86)=X:=⟨_,rfl⟩
 obtain ⟨xA,xB,bX,sX⟩:=Li HX
 have HS:=d9 (show SlOf yq 4 X (some ⟨w.heap.size + 1,0,none⟩) 1 [⟨a,k,n,s⟩] from ⟨(fun h=>by cases h),Nat.le_refl _,by unfold maxLen;decide,LsOf.one (jc xB) fun c hc=>by
  have hm:c=0 ∨ c=1 ∨ c=2 ∨ c=3:=by omega
  unfold World.cell?
  rcases hm with e | e | e | e <;> subst e <;> simp [xB,yq]⟩)
 have BX:=d9 bX
 clear xA xB bX sX
 go_enter Tryz.func109,Tryz.ntmps109
 go_wp2
 go_ret
 exact ⟨⟨_,_,rfl,uh HS⟩,uh BX⟩
def km (l:List Pd) (k n:Int) (s:ByteArray):Bool:=l.all fun p=>mm [⟨p.attr,k,n,s⟩] p
theorem Vb {l:List Pd} {k n:Int} {s:ByteArray} {p:Pd} (hp:p ∈ l) (h:mm [⟨p.attr,k,n,s⟩] p=false):km l k n s=false:=List.all_eq_false.2 ⟨p,hp,by rw [h];simp⟩
set_option maxHeartbeats 4000000 in
set_option maxRecDepth 100000 in
theorem Cq (q:Option Addr) (c:Nat) (l:List Pd) (k n:Int) (s:ByteArray) (w:World) (h:PdsOf w q c l) (hs:Small l) (hl:l.length<=10000000000000) :
  Calls Tryz.prog 53 #[.slice q l.length c,.agg #[.int .i64 k,.int .i64 n,.string s]] w fun e w'=>e=.returned (.bool (km l k n s))/\Below w.heap.size w w':=by
 have mixed:Tryz.prog.follows .mixedOrders=true:=by kernel_rfl
 have i9:(l.length:Int)<=10000000000000:=by omega
 obtain ⟨X,HX⟩:∃ X,w.alloc (.cells #[.int .i64 k,.int .i64 n,.string s] 84)=X:=⟨_,rfl⟩
 have bX:Below w.heap.size w X:=by rw [<- HX];exact (Below.refl _ _).alloc (Nat.le_refl _) _
 have X8:=d9 (show X.heap[w.heap.size]? = some (.cells #[.int .i64 k,.int .i64 n,.string s] 84 (0,0)) by rw [<- HX];exact jf _ _)
 have HH:=d9 (h.below bX)
 have HS:=d9 hs
 have BX:=d9 bX
 clear h hs bX
 go_enter Tryz.func53,Tryz.ntmps53
 go_wp2
 clear HX
 go_loopw [5] (fun iv wr=>∃ t:Nat,t<=l.length/\iv=.int .i64 t/\Hid (∀ (j:Nat) (p:Pd),j < t->l[j]? = some p->mm [⟨p.attr,k,n,s⟩] p=true)/\Hid (Below X.heap.size X wr)) (fun iv _=>l.length - (intOf iv).toNat)
 case atStart=>exact ⟨0,Nat.zero_le _,rfl,d9 (fun j p hj=>absurd hj (by omega)),d9 (Below.refl _ _)⟩
 case round =>
  obtain ⟨t,ht,rfl,HA,HB⟩:=hrel
  by_cases hlt:t < l.length
  ·obtain ⟨p,hp,_⟩:=je hlt
   obtain ⟨b,off,u,hq,hb,hu,c0,c1,c2,c3,c4,c5⟩:=((uh HH).below (uh HB)).at hp
   subst hq
   have k0:(0:Int)<=(t:Int):=by omega
   have k1:(t:Int) < (l.length:Int):=by omega
   obtain ⟨d0,d1,d2⟩:=Fj (jn (uh X8) (uh HB))
   have HK:∀ W,Below wr.heap.size wr W->(W.cell? ⟨b,off + t * 6,none⟩=some (.int .i64 u.kind)/\W.cell? ⟨b,off + t * 6 + 1,none⟩=some (.string u.attr)/\W.cell? ⟨b,off + t * 6 + 2,none⟩=some (.slice u.qi u.ni u.ci)/\W.cell? ⟨b,off + t * 6 + 3,none⟩=some (.slice u.qw u.nw u.cw)/\W.cell? ⟨b,off + t * 6 + 4,none⟩=some (.int .i64 u.lo)/\W.cell? ⟨b,off + t * 6 + 5,none⟩=some (.int .i64 u.hi)/\W.cell? ⟨w.heap.size,0,none⟩=some (.int .i64 k)/\W.cell? ⟨w.heap.size,1,none⟩=some (.int .i64 n)/\W.cell? ⟨w.heap.size,2,none⟩=some (.string s)):=fun W hW=>by
    obtain ⟨d0,d1,d2⟩:=Fj (jn (uh X8) (d8 (uh HB) hW))
    exact ⟨(hW.cell (p:=⟨b,_,none⟩) hb).trans c0,(hW.cell (p:=⟨b,_,none⟩) hb).trans c1,(hW.cell (p:=⟨b,_,none⟩) hb).trans c2,(hW.cell (p:=⟨b,_,none⟩) hb).trans c3,(hW.cell (p:=⟨b,_,none⟩) hb).trans c4,(hW.cell (p:=⟨b,_,none⟩) hb).trans c5,d0,d1,d2⟩
   have HX:=d9 hp
   have hV:=fun (W:World)=>Vf u.attr k n s W
   have hsm:=uh HS p (List.mem_of_getElem? hp)
   have hH:=fun (W:World) (hW:Below wr.heap.size wr W) (qe:Option Addr) (ce:Nat) (he:SlOf yq 4 W qe ce [⟨u.attr,k,n,s⟩])=>Ey p.kind p.attr u.qi u.ci p.ints u.qw u.cw p.words p.lo p.hi qe ce [⟨u.attr,k,n,s⟩] W (hu.keep hW).2.2.2.2.2.2.1 (hu.keep hW).2.2.2.2.2.2.2 hsm.1 hsm.2 he (by simp)
   rw [<- hu.1,<- hu.2.1,<- hu.2.2.1,<- hu.2.2.2.1,<- hu.2.2.2.2.1,<- hu.2.2.2.2.2.1] at hH
   have hR:mr u.kind u.attr p.ints p.words u.lo u.hi [⟨u.attr,k,n,s⟩]=mm [⟨p.attr,k,n,s⟩] p:=by rw [hu.1,hu.2.1,hu.2.2.2.2.1,hu.2.2.2.2.2.1];rfl
   rw [hR] at hH
   obtain ⟨R,hRR⟩:∃ R,mm [⟨p.attr,k,n,s⟩] p=R:=⟨_,rfl⟩
   rw [hRR] at hH
   have HR:=d9 hRR
   clear hp hu hR hRR hsm
   go_upto_region 4 with (fail)
   go_region_held3 (fun W=>W.cell? ⟨b,off + t * 6,none⟩=some (.int .i64 u.kind)/\W.cell? ⟨b,off + t * 6 + 1,none⟩=some (.string u.attr)/\W.cell? ⟨b,off + t * 6 + 2,none⟩=some (.slice u.qi u.ni u.ci)/\W.cell? ⟨b,off + t * 6 + 3,none⟩=some (.slice u.qw u.nw u.cw)/\W.cell? ⟨b,off + t * 6 + 4,none⟩=some (.int .i64 u.lo)/\W.cell? ⟨b,off + t * 6 + 5,none⟩=some (.int .i64 u.hi)/\W.cell? ⟨w.heap.size,0,none⟩=some (.int .i64 k)/\W.cell? ⟨w.heap.size,1,none⟩=some (.int .i64 n)/\W.cell? ⟨w.heap.size,2,none⟩=some (.string s)) (first | exact HK _ (Below.refl _ _) | exact HK _ (Below.refl _ _).drew | exact HK _ (uh B2) | exact HK _ (uh B2).drew | exact HK _ (uh B1) | exact HK _ (uh B1).drew | go_keep) (first
    | (go_at_call 109;refine (hV _).mono ?_;rintro e w1 ⟨⟨qe,ce,rfl,he⟩,b1⟩;have B1:=d9 (show Below wr.heap.size wr w1 by first | exact b1 | exact jd b1);have S1:=d9 he;clear b1 he)
    | (go_at_call 83;(refine (hH _ (by first | exact uh B1 | exact (uh B1).drew) qe ce (by first | exact uh S1 | exact (uh S1).below (Below.refl _ _).drew)).mono ?_);rintro e w2 ⟨rfl,b2⟩;have B2:=d9 (show Below wr.heap.size wr w2 by first | exact d8 (uh B1) b2 | exact d8 (uh B1).drew b2);clear b2))
   all_goals
    cases R with
    | true =>
     go_wp2
     go_roundw
     case rel =>
      refine ⟨t + 1,by omega,by go_num,d9 (fun j y hj hy=>?_),d9 (d8 (uh HB) (by first | exact uh B2 | exact (uh B2).drew))⟩
      by_cases e:j=t
      ·subst e;rw [uh HX] at hy;cases hy;exact uh HR
      ·exact uh HA j y (by omega) hy
     case measure=>simp [intOf];omega
    | false =>
     go_wp2
     go_ret
     exact ⟨jb (Vb (List.mem_of_getElem? (uh HX)) (uh HR)).symm,d8 (uh BX) (d8 (uh HB) (by first | exact uh B2 | exact (uh B2).drew))⟩
  ·have k1:¬ (t:Int) < (l.length:Int):=by omega
   have HR:=d9 (show true=km l k n s by
    symm
    unfold km
    rw [List.all_eq_true]
    intro p hp
    obtain ⟨j,hj⟩:=List.getElem?_of_mem hp
    exact uh HA j p (by have:=(List.getElem?_eq_some_iff.1 hj).1;omega) hj)
   go_wp2
   go_ret
   exact ⟨jb (uh HR),d8 (uh BX) (uh HB)⟩
end Go.Proofs.YtimklglliffpcaaGreat

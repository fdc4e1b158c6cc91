/- What Same returns, of any two trees. -/
import Derived.Test.YtikhopiegaoacaaDoorTSameA
import Derived.Test.YtikhopiegaoacaaDoorTSameB
import Derived.Test.YtikhopiegaoacaaDoorTSameC
import Derived.Test.YtikhopiegaoacaaDoorTSameD
namespace Go.Proofs.YtikhopiegaoacaaDoor
open Go.RowKit

theorem same_all:∀ a,SameP a:=by
 intro t
 induction t using Nd.ind with
 | h k1 a1 i1 w1 l1 h1 o1 ks1 ih =>
  intro b va vb w g1 g2 hwt
  cases b with
  | mk k2 a2 i2 w2 l2 h2 o2 ks2 =>
   obtain ⟨qi1,ci1,qw1,cw1,qk1,ck1,rfl,s1,t1,n1⟩:=g1.parts
   obtain ⟨qi2,ci2,qw2,cw2,qk2,ck2,rfl,s2,t2,n2⟩:=g2.parts
   simp only [wtN] at hwt
   have hwl:=words_len w1
   have m1:i1.length≤1000000000:=by omega
   have m2:w1.length≤1000000000:=by omega
   have m3:wtL ks1≤1000000000:=by omega
   simp only [Nv.val]
   by_cases qo:o1=o2
   case neg=>exact same_o k1 a1 qi1 ci1 i1 qw1 cw1 w1 l1 h1 o1 qk1 ck1 ks1 qi2 ci2 qw2 cw2 qk2 ck2 o2 k2 a2 l2 h2 i2 w2 ks2 w qo
   subst qo
   by_cases qk:k1=k2
   case neg=>exact same_k k1 a1 qi1 ci1 i1 qw1 cw1 w1 l1 h1 o1 qk1 ck1 ks1 qi2 ci2 qw2 cw2 qk2 ck2 k2 a2 l2 h2 i2 w2 ks2 w qk
   subst qk
   by_cases qa:a1=a2
   case neg=>exact same_a k1 a1 qi1 ci1 i1 qw1 cw1 w1 l1 h1 o1 qk1 ck1 ks1 qi2 ci2 qw2 cw2 qk2 ck2 a2 l2 h2 i2 w2 ks2 w qa
   subst qa
   by_cases ql:l1=l2
   case neg=>exact same_l k1 a1 qi1 ci1 i1 qw1 cw1 w1 l1 h1 o1 qk1 ck1 ks1 qi2 ci2 qw2 cw2 qk2 ck2 l2 h2 i2 w2 ks2 w ql
   subst ql
   by_cases qh:h1=h2
   case neg=>exact same_h k1 a1 qi1 ci1 i1 qw1 cw1 w1 l1 h1 o1 qk1 ck1 ks1 qi2 ci2 qw2 cw2 qk2 ck2 h2 i2 w2 ks2 w qh
   subst qh
   by_cases qi:i1=i2
   case neg=>exact same_i k1 a1 qi1 ci1 i1 qw1 cw1 w1 l1 h1 o1 qk1 ck1 ks1 qi2 ci2 qw2 cw2 qk2 ck2 i2 w2 ks2 w s1 s2 m1 qi
   subst qi
   by_cases qw:w1=w2
   case neg=>exact same_w k1 a1 qi1 ci1 i1 qw1 cw1 w1 l1 h1 o1 qk1 ck1 ks1 qi2 ci2 qw2 cw2 qk2 ck2 w2 ks2 w s1 s2 m1 t1 t2 m2 qw
   subst qw
   by_cases qks:ks1=ks2
   case neg=>exact same_ks k1 a1 qi1 ci1 i1 qw1 cw1 w1 l1 h1 o1 qk1 ck1 ks1 qi2 ci2 qw2 cw2 qk2 ck2 ks2 w s1 s2 m1 t1 t2 m2 n1 n2 m3 ih qks
   subst qks
   exact same_eq k1 a1 qi1 ci1 i1 qw1 cw1 w1 l1 h1 o1 qk1 ck1 ks1 qi2 ci2 qw2 cw2 qk2 ck2 w s1 s2 m1 t1 t2 m2 n1 n2 m3 ih
end Go.Proofs.YtikhopiegaoacaaDoor

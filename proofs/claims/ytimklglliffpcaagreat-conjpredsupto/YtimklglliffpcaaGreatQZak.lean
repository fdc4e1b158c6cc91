/- dnf's measured of any tree. -/
import Derived.Test.YtimklglliffpcaaGreatQDnfMeasJ
import Derived.Test.YtimklglliffpcaaGreatQZae
import Derived.Test.YtimklglliffpcaaGreatQZaj
import Derived.Test.YtimklglliffpcaaGreatQZab
import Derived.Test.YtimklglliffpcaaGreatQJoin
namespace Go.Proofs.YtimklglliffpcaaGreat
open Go.RowKit Go.Sort
theorem G7 {kids:List Nd} (hC:∀ x ∈ kids,ms x=true) (hW:∀ x ∈ kids,wN x<=64):yo 64 kids=kids.map wN:=by
 rw [vv]
 apply List.map_congr_left
 intro x hx
 have h:=(Dd (m:=64) (by omega) (by omega) x (hC x hx)).1
 have:=hW x hx
 rw [h];omega
theorem Er {w0 w w' w'':World} {C:Nat} {kind lo hi:Int} {attr:ByteArray} {neg:Bool} {ints:List Int} {words:List ByteArray} {qi qw:Option Addr} {ci cw:Nat} (h1:SlOf jq 1 w0 qi ci ints) (h2:SlOf jy 1 w0 qw cw words) (hb:Below w0.heap.size w0 w) (b:Below w.heap.size w w') (ha:Ags w0.heap.size C w' w'') :
  LitIn w'' ⟨kind,attr,qi,ints.length,ci,qw,words.length,cw,lo,hi,neg⟩ ⟨kind,attr,ints,words,lo,hi,neg⟩:=by
 obtain ⟨a1,a2⟩:=zbv hb b ha
 exact ⟨rfl,rfl,rfl,rfl,rfl,rfl,rfl,h1.agree a1 (fun ad _ hlt o=>a2 ad.block o hlt),h2.agree a1 (fun ad _ hlt o=>a2 ad.block o hlt)⟩
theorem Pc {w0 w w':World} {kind lo hi op:Int} {attr:ByteArray} {ints:List Int} {words:List ByteArray} {kids:List Nd} {gk:Nat} {us:List Sv} (ho:op=3 ∨ op=4) (hg:w.heap.size<=gk) (hs:SlOf rv 10 w' (some ⟨gk,0,none⟩) kids.length us) (hl:us.length=kids.length) (hk:∀ (j:Nat) (v:Sv) (x:Nd),us[j]? = some v->kids[j]? = some x->SdSt w0.heap.size w.heap.size v x w') :
  SdSt w0.heap.size w.heap.size ⟨⟨0,⟨#[]⟩,none,0,0,none,0,0,0,0,false⟩,op,wN (.mk kind attr ints words lo hi op kids),some ⟨gk,0,none⟩,kids.length,kids.length⟩ (.mk kind attr ints words lo hi op kids) w':=fun w'' ha =>
 .join ho rfl rfl (hs.agree ha.1 (fun ad e hlt o=>by cases e;exact ha.2 gk o hlt (Or.inr hg))) rfl hl (fun j v x h1 h2=>hk j v x h1 h2 w'' ha)
theorem Vk:∀ t,MsP t:=by
 intro t
 induction t using Nd.ind with
 | h kind attr ints words lo hi op kids ih =>
  intro v w0 w hin hb hch hat hwt hwn
  obtain ⟨qi,ci,qw,cw,qk,ck,rfl,h1,h2,hk⟩:=hin.parts
  obtain ⟨l1,l2,l4⟩:=Ad hwt
  have hch0:=hch
  simp only [ms,Bool.and_eq_true] at hch
  obtain ⟨hn,hc⟩:=hch
  have hC:∀ x ∈ kids,ms x=true:=fun x hx=>Gu hc hx
  simp only [Nv.val]
  unfold zx at hn
  by_cases o1:op=1
  ·subst o1
   refine (R0 kind attr qi ci ints qw cw words lo hi qk ck kids w).mono ?_
   rintro e w' ⟨rfl,b⟩
   exact ⟨⟨⟨⟨kind,attr,qi,ints.length,ci,qw,words.length,cw,lo,hi,false⟩,1,1,none,0,0⟩,rfl,fun w'' ha=>.pos (Er h1 h2 hb b ha) rfl rfl⟩,b⟩
  ·rw [if_neg o1] at hn
   by_cases o2:op=2
   ·subst o2
    rw [if_pos rfl,Bool.and_eq_true] at hn
    obtain ⟨x,rfl⟩:=List.length_eq_one_iff.1 (of_decide_eq_true hn.2)
    obtain ⟨b,off,u,hq,hbb,hu,g0,g1,g2,g3,g4,g5,g6,g7⟩:=hk.at (j:=0) (x:=x) rfl
    subst hq
    obtain ⟨k2,a2,i2,w2,lo2,hi2,o2,ks2⟩:=x
    obtain ⟨qi2,ci2,qw2,cw2,qk2,ck2,rfl,m1,m2,_⟩:=hu.parts
    rw [Nat.zero_mul,Nat.add_zero] at g0 g1 g2 g3 g4 g5
    have hs:=hb.size
    refine (Va kind attr qi ci ints qw cw words lo hi b off ck ⟨k2,a2,qi2,i2.length,ci2,qw2,w2.length,cw2,lo2,hi2,o2,qk2,ks2.length,ck2⟩ w (by omega) ((hb.cell (p:=⟨b,off,none⟩) hbb).trans g0) ((hb.cell (p:=⟨b,off + 1,none⟩) hbb).trans g1) ((hb.cell (p:=⟨b,off + 2,none⟩) hbb).trans g2) ((hb.cell (p:=⟨b,off + 3,none⟩) hbb).trans g3) ((hb.cell (p:=⟨b,off + 4,none⟩) hbb).trans g4) ((hb.cell (p:=⟨b,off + 5,none⟩) hbb).trans g5)).mono ?_
    rintro e w' ⟨rfl,b'⟩
    exact ⟨⟨⟨⟨k2,a2,qi2,i2.length,ci2,qw2,w2.length,cw2,lo2,hi2,true⟩,1,1,none,0,0⟩,rfl,fun w'' ha=>.neg (Er m1 m2 hb b' ha) rfl rfl⟩,b'⟩
   ·have ho:op=3 ∨ op=4:=by
     by_cases o3:op=3
     ·exact Or.inl o3
     ·by_cases o4:op=4
      ·exact Or.inr o4
      ·rw [if_neg o2,if_neg (by omega)] at hn;cases hn
    have hA:∀ x ∈ kids,atN x=true:=Fu (by rcases ho with rfl | rfl <;> simpa [atN] using hat)
    have hW:=Dr ho hC hwn
    have hwd:=(Dd (m:=64) (by omega) (by omega) _ hch0).1
    rcases ho with rfl | rfl
    ·have e:Dp 64 (.mk kind attr ints words lo hi 3 kids)=En 64 (yo 64 kids):=by simp [Dp]
     rw [e,G7 hC hW] at hwd
     refine (za4 kind attr qi ci ints qw cw words lo hi qk ck kids w0 w hk hb ih hC hA hW l4).mono ?_
     rintro e w' ⟨⟨gk,us,rfl,a1,a2,a3,a4⟩,b⟩
     rw [show En 64 (kids.map wN)=wN (.mk kind attr ints words lo hi 3 kids) by rw [hwd];omega]
     exact ⟨⟨_,rfl,Pc (Or.inl rfl) a1 a2 a3 a4⟩,b⟩
    ·have e:Dp 64 (.mk kind attr ints words lo hi 4 kids)=Vt 64 (yo 64 kids):=by simp [Dp]
     rw [e,G7 hC hW] at hwd
     refine (za5 kind attr qi ci ints qw cw words lo hi qk ck kids w0 w hk hb ih hC hA hW l4).mono ?_
     rintro e w' ⟨⟨gk,us,rfl,a1,a2,a3,a4⟩,b⟩
     rw [show Vt 64 (kids.map wN)=wN (.mk kind attr ints words lo hi 4 kids) by rw [hwd];omega]
     exact ⟨⟨_,rfl,Pc (Or.inr rfl) a1 a2 a3 a4⟩,b⟩
end Go.Proofs.YtimklglliffpcaaGreat
namespace Go.Proofs.YtimklglliffpcaaGreat
open Go.RowKit Go.Sort
theorem Gm:∀ t:Nd,∀ c ∈ cjN t,c.length<=wtN t/\∀ l ∈ c,l.ints.length<=wtN t/\l.words.length<=wtN t:=by
 intro t
 induction t using Nd.ind with
 | h kind attr ints words lo hi op kids ih =>
  intro c hc
  have hwl:=pz words
  simp only [cjN] at hc
  split at hc
  ·have:∀ ks:List Nd,(∀ x ∈ ks,∀ c ∈ cjN x,c.length<=wtN x/\∀ l ∈ c,l.ints.length<=wtN x/\l.words.length<=wtN x)->∀ c ∈ pp ks,c.length<=wtL ks/\∀ l ∈ c,l.ints.length<=wtL ks/\l.words.length<=wtL ks:=by
    intro ks
    induction ks with
    | nil=>intro _ c hc;simp [pp] at hc
    | cons x ks ihk =>
     intro hx c hc
     simp only [pp,List.mem_append] at hc
     simp only [wtL]
     rcases hc with hc | hc
     ·obtain ⟨a,b⟩:=hx x (by simp) c hc
      exact ⟨by omega,fun l hl=>by have:=b l hl;omega⟩
     ·obtain ⟨a,b⟩:=ihk (fun y hy=>hx y (by simp [hy])) c hc
      exact ⟨by omega,fun l hl=>by have:=b l hl;omega⟩
   obtain ⟨a,b⟩:=this kids ih c hc
   simp only [wtN]
   exact ⟨by omega,fun l hl=>by have:=b l hl;omega⟩
  ·split at hc
   ·have:∀ ks:List Nd,(∀ x ∈ ks,∀ c ∈ cjN x,c.length<=wtN x/\∀ l ∈ c,l.ints.length<=wtN x/\l.words.length<=wtN x)->∀ c ∈ jx ks,c.length<=wtL ks/\∀ l ∈ c,l.ints.length<=wtL ks/\l.words.length<=wtL ks:=by
     intro ks
     induction ks with
     | nil=>intro _ c hc;simp [jx] at hc;subst hc;simp
     | cons x ks ihk =>
      intro hx c hc
      simp only [jx,n9,List.mem_flatMap,List.mem_map] at hc
      obtain ⟨c1,h1,c2,h2,rfl⟩:=hc
      obtain ⟨a,b⟩:=hx x (by simp) c1 h1
      obtain ⟨a2,b2⟩:=ihk (fun y hy=>hx y (by simp [hy])) c2 h2
      simp only [wtL,List.length_append]
      exact ⟨by omega,fun l hl=>by
       rcases List.mem_append.1 hl with hl | hl
       ·have:=b l hl;omega
       ·have:=b2 l hl;omega⟩
    obtain ⟨a,b⟩:=this kids ih c hc
    simp only [wtN]
    exact ⟨by omega,fun l hl=>by have:=b l hl;omega⟩
   ·split at hc
    ·cases kids with
     | nil=>simp [Bm] at hc
     | cons x ks =>
      obtain ⟨k2,a2,i2,w2,l2,h2,o2,ks2⟩:=x
      have hwl2:=pz w2
      simp only [Bm,List.mem_singleton] at hc
      subst hc
      simp only [wtN,wtL,List.length_singleton,List.mem_singleton]
      exact ⟨by omega,fun l hl=>by subst hl;simp only;omega⟩
    ·simp only [List.mem_singleton] at hc
     subst hc
     simp only [wtN,List.length_singleton,List.mem_singleton]
     exact ⟨by omega,fun l hl=>by subst hl;simp only;omega⟩
/-- What Expand answers. -/
def Fe (t:Nd) (m:Int):Int:=if pi t m=0 then (if qh t m > m then 13 else 0) else pi t m
def C0 (t:Nd) (m:Int):List (List Lt):=if Fe t m=0 then cjN (lr t false) else []
theorem Vz {t:Nd} {m:Int} (h0:pi t m=0) (h1:¬ qh t m > m):ms t=true/\1<=m/\m<=64/\wN (lr t false)<=m/\qh t m=((cjN (lr t false)).length:Nat)/\Fe t m=0/\C0 t m=cjN (lr t false):=by
 have hc:ms t=true:=by
  cases h:ms t with
  | true=>rfl
  | false=>simp [pi,h] at h0
 have hm:1<=m/\m<=64:=by
  by_cases h:1<=m/\m<=64
  ·exact h
  ·simp [pi,hc,h] at h0
 have hA:qh t m=Dp m (lr t false):=by simp [qh,hc,hm]
 have hd:=Jd t false hc
 have hw:=(Dd hm.1 hm.2 _ hd).1
 have hcj:=(Eh [] _ hd (Ln t false hc)).1
 have e:Fe t m=0:=by unfold Fe;rw [if_pos h0,if_neg h1]
 rw [hA] at h1 ⊢
 exact ⟨hc,hm.1,hm.2,by omega,by rw [hcj];omega,e,by unfold C0;rw [if_pos e]⟩
set_option maxRecDepth 100000 in
set_option maxHeartbeats 4000000 in
theorem Le (x:Nd) (m:Int) (v:Nv) (w:World) (hin:NdIn w v x) (hx:ms x=false) (hwt:wtN x<=1000000000) :
  Calls Tryz.prog 134 #[.agg #[.int .i64 v.kind,.string v.attr,.slice v.qi v.ni v.ci,.slice v.qw v.nw v.cw,.int .i64 v.lo,.int .i64 v.hi,.int .i64 v.op,.slice v.qk v.nk v.ck],.int .i64 m] w fun e w'=>e=.returned (.tuple #[.int .i64 0,.int .i64 1])/\Below w.heap.size w w':=by
 obtain ⟨X,HX⟩:∃ X,w.alloc (.cells #[.int .i64 v.kind,.string v.attr,.slice v.qi v.ni v.ci,.slice v.qw v.nw v.cw,.int .i64 v.lo,.int .i64 v.hi,.int .i64 v.op,.slice v.qk v.nk v.ck] 56)=X:=⟨_,rfl⟩
 have hX0:X.heap[w.heap.size]? = some (.cells #[.int .i64 v.kind,.string v.attr,.slice v.qi v.ni v.ci,.slice v.qw v.nw v.cw,.int .i64 v.lo,.int .i64 v.hi,.int .i64 v.op,.slice v.qk v.nk v.ck] 56 (0,0)):=by rw [<- HX];exact jf _ _
 have hwX:Below w.heap.size w X:=by rw [<- HX];exact (Below.refl _ _).alloc (Nat.le_refl _) _
 obtain ⟨x0,x1,x2,x3,x4,x5,x6,x7⟩:=rj hX0
 have hp:=Bx x v X (hin.keep hwX) hwt
 have HWX:=d9 hwX
 rw [hx,show py false=1 from rfl] at hp
 simp only [Nv.val] at hp
 clear hin hwX hX0 hx
 go_enter Tryz.func134,Tryz.ntmps134
 go_wp2_with (go_at_call 135;refine hp.mono ?_;rintro e w1 ⟨⟨u,rfl,hu⟩,b1⟩;have B1:=d9 b1;clear b1 hu)
 refine bodyPost_ret (v:=.tuple #[.int .i64 0,.int .i64 1]) (by simp [results,Tryz.results134,go_sem]) rfl ⟨rfl,(d8 (uh HWX) (uh B1)).alloc (d8 (uh HWX) (uh B1)).size _⟩
theorem Ar (x:Nd) (m:Int) (u:Nv) (W:World) (h:NdIn W u x) (hwt:wtN x<=400000000):Calls Tryz.prog 134 #[u.val,.int .i64 m] W fun e w'=>e=.returned (.tuple #[.int .i64 (qh x m),.int .i64 (pi x m)])/\Below W.heap.size W w':=by
 cases hc:ms x
 ·rw [show qh x m=0 by unfold qh;rw [hc];rfl,show pi x m=1 by unfold pi;rw [hc];rfl]
  exact Le x m u W h hc (by omega)
 ·exact Ci x m u W h (by omega) (by have:=Ca x false hc;omega)
theorem Tryz.info37:(Tryz.prog.info? 37).map (fun i=>(i.zero,i.size,i.bytes))=some (some (.slice none 0 0),1,24):=by kernel_rfl
theorem za2 (n:Nat) (h:n * 24<=140737488355328):∃ cur:Array Value,cur.size=n * 1/\∀ W:World,(Instr.makeSlice 111 (.int .i64 (n:Int)) (.int .i64 (n:Int))).run Tryz.prog W=.ok (.slice (some ⟨W.heap.size,0,none⟩) n n) (W.alloc (.cells cur 37)):=by
 obtain ⟨i0,hi,hz0,hz1,hz2⟩:=info_parts Tryz.info37
 refine ⟨madeCells (Value.cells (.slice none 0 0)) (n * i0.size),by rw [size_madeCells,hz1],fun W=>?_⟩
 have:=run_make (P:=Tryz.prog) W 111 37 i0 _ Tryz.underlying111 hi hz0 .i64 .i64 (n:Int) (n:Int) (by omega) (by omega) (by rw [hz2];omega) (by omega)
 simpa only [Int.toNat_natCast] using this
theorem OffP.mono {B B':Nat} {P:World->Prop} {g:Option Nat} {w:World} (h:OffP B P g w) (hB:B'<=B):OffP B' P g w:=fun w' hs hc=>h w' hs fun b o hb hlt hne=>hc b o (by omega) hlt hne
theorem GrowL.mono {B B':Nat} {w:World} {q:Option Addr} {c n:Nat} {ls:List Lt} (h:GrowL B w q c n ls) (hB:B'<=B):GrowL B' w q c n ls:=by
 obtain ⟨h1,us,h2,h3,h4⟩:=h
 exact ⟨h1,us,h2,h3.mono hB,h4.mono hB⟩
theorem GrowL.set {B:Nat} {w:World} {q:Option Addr} {c n:Nat} {ls:List Lt} (h:GrowL B w q c n ls) {g:Nat} (hg:g < B) (o:Nat) (u:Value):GrowL B (w.setCell ⟨g,o,none⟩ u) q c n ls:=by
 obtain ⟨h1,us,h2,h3,h4⟩:=h
 refine ⟨h1,us,h2, ?_,h4.set (p:=⟨g,o,none⟩) hg u⟩
 refine World.ownsRow.kept h3 (xw (Cl w (some g)) o u) (Or.inr fun e=>?_)
 have:=(World.ownsRow.lt h3 g e).1
 omega
/-- Conjunctions in memory of the call's own. -/
def CjsNew (B:Nat) (w:World) (q:Option Addr) (c:Nat) (cs:List (List Lt)):Prop:=∃ us:List (Option Addr × Nat × Nat),us.length=cs.length/\OwnK Z8 37 1 B w q c us/\∀ (j:Nat) (u:Option Addr × Nat × Nat) (ls:List Lt),us[j]? = some u->cs[j]? = some ls->GrowL B w u.1 u.2.2 u.2.1 ls
theorem CjsNew.of {B:Nat} {w:World} {q:Option Addr} {c:Nat} {cs:List (List Lt)} (h:CjsNew B w q c cs):CjsOf w q c cs:=by
 obtain ⟨us,h1,h2,h3⟩:=h
 exact ⟨us,h2.ls,h1,fun j u ls hj hl=>⟨(h3 j u ls hj hl).1.symm,(h3 j u ls hj hl).lits⟩⟩
theorem CjsNew.nil (B:Nat) (w:World):CjsNew B w none 0 []:=⟨[],rfl,OwnK.nil _ _,fun j u ls h=>by simp at h⟩
theorem zc4 (us:List (Option Addr × Nat × Nat)):(flatK Z8 1 us.toArray).toList=us.map (fun u=>Value.slice u.1 u.2.1 u.2.2):=by
 apply List.ext_getElem?
 intro j
 by_cases hj:j < us.length
 ·obtain ⟨x,hx,_⟩:=je hj
  have:=lj (enc:=Z8) (k:=1) hx 0 (by omega)
  rw [Nat.mul_one,Nat.add_zero] at this
  rw [this,List.getElem?_map,hx];rfl
 ·rw [List.getElem?_eq_none (by simp [flatK];omega),List.getElem?_eq_none (by simp;omega)]
theorem zcb {cs:List (List Lt)} {us:List (Option Addr × Nat × Nat)} {Q:(Option Addr × Nat × Nat)->List Lt->Prop} {s:Option Addr × Nat × Nat} {x:List Lt} {k:Nat} (hu:us.length=k) (hx:cs[k]? = some x) (h:∀ (j:Nat) (v:Option Addr × Nat × Nat) (x:List Lt),us[j]? = some v->cs[j]? = some x->Q v x) (sp:Q s x):∀ (j:Nat) (y:Option Addr × Nat × Nat) (z:List Lt),(us ++ [s])[j]? = some y->cs[j]? = some z->Q y z:=by
 intro j y z hj hz
 by_cases hjk:j < k
 ·rw [List.getElem?_append_left (by omega)] at hj
  exact h j y z hj hz
 ·have hj2:=(List.getElem?_eq_some_iff.1 hj).1
  rw [List.length_append,hu] at hj2
  obtain rfl:j=k:=by simp at hj2;omega
  rw [List.getElem?_append_right (by omega),hu,Nat.sub_self] at hj
  rw [hx] at hz
  cases hj
  cases hz
  exact sp
set_option maxRecDepth 100000 in
set_option maxHeartbeats 4000000 in
theorem Kd (t:Nd) (m:Int) (v:Nv) (w:World) (hin:NdIn w v t) (hwt:wtN t<=400000000) :
  Calls Tryz.prog 84 #[v.val,.int .i64 m] w fun e w'=>(∃ q c,e=.returned (.tuple #[.slice q (C0 t m).length c,.int .i64 (Fe t m)])/\CjsNew w.heap.size w' q c (C0 t m))/\Below w.heap.size w w':=by
 obtain ⟨X,HX⟩:∃ X,w.alloc (.cells #[.int .i64 v.kind,.string v.attr,.slice v.qi v.ni v.ci,.slice v.qw v.nw v.cw,.int .i64 v.lo,.int .i64 v.hi,.int .i64 v.op,.slice v.qk v.nk v.ck] 56)=X:=⟨_,rfl⟩
 have bX:Below w.heap.size w X:=by rw [<- HX];exact (Below.refl _ _).alloc (Nat.le_refl _) _
 have x8:X.heap[w.heap.size]? = some (.cells #[.int .i64 v.kind,.string v.attr,.slice v.qi v.ni v.ci,.slice v.qw v.nw v.cw,.int .i64 v.lo,.int .i64 v.hi,.int .i64 v.op,.slice v.qk v.nk v.ck] 56 (0,0)):=by rw [<- HX];exact jf _ _
 obtain ⟨c0,c1,c2,c3,c4,c5,c6,c7⟩:=rj x8
 have hlt8:=jc x8
 have X8:=d9 x8
 have BX:=d9 bX
 simp only [Nv.val]
 have hwd:wtN (lr t false)<=1000000000 ∨ ms t=false:=by
  cases h:ms t with
  | true=>exact Or.inl (by have:=Ca t false h;omega)
  | false=>exact Or.inr rfl
 have hPW:=Ar t m v X (hin.keep bX) (by omega)
 simp only [Nv.val] at hPW
 have HIN:=d9 (hin.keep bX)
 by_cases e0:pi t m=0
 ·by_cases e1:qh t m > m
  ·have hE:Fe t m=13:=by unfold Fe;rw [if_pos e0,if_pos e1]
   have hCn:C0 t m=[]:=by unfold C0;rw [if_neg (by omega)]
   rw [hE,hCn]
   rw [e0] at hPW
   obtain ⟨A,hA⟩:∃ A,qh t m=A:=⟨_,rfl⟩
   rw [hA] at hPW e1
   have e2:decide (A > m)=true:=by simp;omega
   clear hin bX x8 hE hCn hA e0
   go_enter Tryz.func84,Tryz.ntmps84
   go_wp2_with (go_at_call 134;refine hPW.mono ?_;rintro e w1 ⟨rfl,b1⟩;have B1:=d9 b1;clear b1)
   refine bodyPost_ret (v:=.tuple #[.slice none 0 0,.int .i64 13]) (by simp [results,Tryz.results84,go_sem, *]) rfl ⟨⟨none,0,rfl,CjsNew.nil _ _⟩,d8 (uh BX) (uh B1)⟩
  ·obtain ⟨hc,m1,m2,hwn,hwa,hE,hCe⟩:=Vz e0 e1
   rw [hE,hCe]
   obtain ⟨T,hT⟩:∃ T,lr t false=T:=⟨_,rfl⟩
   have hTc:ms T=true:=by rw [<- hT];exact Jd t false hc
   have hTa:atN T=true:=by rw [<- hT];exact Ln t false hc
   have hTw:wtN T<=1000000000:=by rw [<- hT];have:=Ca t false hc;omega
   rw [hT] at hwn hwa
   rw [hT]
   have hPT:Py t=T:=by unfold Py;rw [if_pos hc,hT]
   obtain ⟨n,hn⟩:∃ n,(cjN T).length=n:=⟨_,rfl⟩
   rw [hn] at hwa
   rw [hn]
   have hnm:(n:Int)<=m:=by omega
   have hn64:n<=64:=by omega
   have hwT:wN T<=64:=by omega
   rw [e0,hwa] at hPW
   have e2:decide ((n:Int) > m)=false:=by simp;omega
   have hP:=fun (W:World) (hW:Below X.heap.size X W)=>Bx t v W ((uh HIN).keep hW) (by omega)
   rw [hc,hPT] at hP
   simp only [Nv.val,py,if_true] at hP
   obtain ⟨cur,hcs,hmk⟩:=za2 n (by omega)
   have hmx:n<=maxLen:=by unfold maxLen;omega
   have HN:=d9 hn
   have HCS:=d9 hcs
   have a1:(0:Int)<=(n:Int):=by omega
   clear hin bX x8 hE hCe e0 e1 hwa hT hPT hcs hn hwd hc hwn
   go_enter Tryz.func84,Tryz.ntmps84
   go_wp2_with (first
    | (go_at_call 134;refine hPW.mono ?_;rintro e w1 ⟨rfl,b1⟩;(obtain ⟨d0,d1,d2,d3,d4,d5,d6,d7⟩:=rj ((b1.block _ hlt8).trans (uh X8)));have B1:=d9 b1;clear b1)
    | (go_at_call 135;refine (hP _ (uh B1)).mono ?_;rintro e w2 ⟨⟨u,rfl,hu⟩,b2⟩;simp only;have HU:=d9 hu.toIn;have B2:=d9 (d8 (uh B1) b2);clear hu b2)
    | (go_at_call 136;refine Fx ?_;intro Y hY;have bY:Below w2.heap.size w2 Y:=(by rw [hY];exact (Below.refl _ _).alloc (Nat.le_refl _) _);refine (Vk T u Y Y ((uh HU).keep bY) (Below.refl _ _) hTc hTa hTw hwT).mono ?_;rintro e M ⟨⟨s,rfl,hs⟩,bM⟩;simp only [Sv.val];have HS:=d9 hs.now;have BM:=d9 (d8 (uh BX) (d8 (uh B2) (d8 bY bM)));have HMS:=d9 (show s.width=(n:Int) from (hs.now.wide hTc hTa).trans ((Eh [] T hTc hTa).1.symm.trans (by rw [uh HN])));clear hs bM bY hY))
   obtain ⟨V,HV⟩:∃ V,M.alloc (.cells #[.int .i64 s.lit.kind,.string s.lit.attr,.slice s.lit.qi s.lit.ni s.lit.ci,.slice s.lit.qw s.lit.nw s.lit.cw,.int .i64 s.lit.lo,.int .i64 s.lit.hi,.bool s.lit.neg,.int .i64 s.op,.int .i64 s.width,.slice s.qk s.nk s.ck] 156)=V:=⟨_,rfl⟩
   have vk:V.heap[M.heap.size]? = some (.cells #[.int .i64 s.lit.kind,.string s.lit.attr,.slice s.lit.qi s.lit.ni s.lit.ci,.slice s.lit.qw s.lit.nw s.lit.cw,.int .i64 s.lit.lo,.int .i64 s.lit.hi,.bool s.lit.neg,.int .i64 s.op,.int .i64 s.width,.slice s.qk s.nk s.ck] 156 (0,0)):=by rw [<- HV];exact jf _ _
   have bV:Below M.heap.size M V:=by rw [<- HV];exact (Below.refl _ _).alloc (Nat.le_refl _) _
   have sV:V.heap.size=M.heap.size + 1:=by rw [<- HV];simp
   obtain ⟨Y,HY⟩:∃ Y,V.alloc (.cells cur 37)=Y:=⟨_,rfl⟩
   have bY:Below V.heap.size V Y:=by rw [<- HY];exact (Below.refl _ _).alloc (Nat.le_refl _) _
   have yk:Y.heap[V.heap.size]? = some (.cells cur 37 (0,0)):=by rw [<- HY];exact jf _ _
   have sY:Y.heap.size=V.heap.size + 1:=by rw [<- HY];simp
   have RQ:=d9 (show Y.ownsRow (M.heap.size + 1) 37 1 (.slice (some ⟨M.heap.size + 1,0,none⟩) n n) n cur.toList from by rw [<- sV];exact vg yk (by omega) (uh HCS) hmx)
   have VK:=d9 ((bY.block _ (jc vk)).trans vk)
   have VK0:=d9 vk
   have BVY:=d9 bY
   have BMV:=d9 bV
   have hMw:=(uh BM).size
   clear vk bV bY yk VK
   simp only [HV,HY]
   go_loopw [36] (fun i wr=>∃ (k:Nat) (us:List (Option Addr × Nat × Nat)),k<=n/\i=.int .i64 k/\us.length=k/\Hid (wr.ownsRow (M.heap.size + 1) 37 1 (.slice (some ⟨M.heap.size + 1,0,none⟩) n n) n (us.map (fun u=>Value.slice u.1 u.2.1 u.2.2) ++ cur.toList.drop k))/\Hid (Below V.heap.size V wr)/\M.heap.size + 2<=wr.heap.size/\Hid (∀ (j:Nat) (u:Option Addr × Nat × Nat) (ls:List Lt),us[j]? = some u->(cjN T)[j]? = some ls->GrowL (M.heap.size + 2) wr u.1 u.2.2 u.2.1 ls)) (fun i _=>n - (intOf i).toNat)
   case atStart=>exact ⟨0,[],by omega,rfl,rfl,by simpa using RQ,BVY,by omega,d9 (fun j u ls h=>by simp at h)⟩
   case round =>
    obtain ⟨k,us,hkk,rfl,hus,RQr,HB,hsz,HG⟩:=hrel
    have HUS:=d9 hus
    clear hus
    have BMr:Below M.heap.size M wr:=d8 (uh BMV) (uh HB)
    by_cases hlt:k < n
    ·obtain ⟨cj,hcj,_⟩:=je (l:=cjN T) (k:=k) (by have:=uh HN;omega)
     have hcl:=(Gm T cj (List.mem_of_getElem? hcj)).1
     have vr:=((uh HB).block _ (by omega)).trans (uh VK0)
     obtain ⟨f0,f1,f2,f3,f4,f5,f6,f7,f8,f9⟩:=Dk vr
     have hC:=Rt T hTc hTa hTw (by omega) s M k cj none 0 0 wr.heap.size [] wr (uh HS) BMr BMr.size (Nat.le_refl _) (GrowL.nil _ _) hcj (by omega)
     unfold Sv.val at hC
     have ki0:(0:Int)<=(k:Int):=by omega
     have ki1:(k:Int) < (n:Int):=by omega
     obtain ⟨zi,hzi⟩:∃ zi,cur.toList.drop k=[zi] ++ cur.toList.drop (k + 1):=⟨_,List.drop_eq_getElem_cons (by have:=uh HCS;simp only [Array.length_toList];omega)⟩
     have RQ1:=d9 (show wr.ownsRow (M.heap.size + 1) 37 1 (.slice (some ⟨M.heap.size + 1,0,none⟩) n n) n (us.map (fun u=>Value.slice u.1 u.2.1 u.2.2) ++ [zi] ++ cur.toList.drop (k + 1)) by have h:=uh RQr;rw [hzi,<- List.append_assoc] at h;exact h)
     have HCJ:=d9 hcj
     clear hcj hzi vr
     go_wp2_with (go_at_call 137;refine hC.mono ?_;rintro e w2 ⟨q2,c2,N2,rfl,h1,h2⟩;simp only;have HE1:=d9 h1;have HE2:=d9 h2;have RQ2:=d9 (ju (uh RQ1) h2);have ic:=World.ownsRow.cellAt (uh RQ2) k (by omega);rw [List.append_assoc,List.getElem?_append_right (by rw [List.length_map,uh HUS];omega),List.length_map,uh HUS,Nat.sub_self] at ic;simp only [List.cons_append,List.getElem?_cons_zero] at ic;have iff2:∀ o,w2.frozen? ⟨M.heap.size + 1,o,none⟩=false:=lq (uh RQ2);have hs2:=h2.size;clear h1 h2)
     exact ⟨⟨k + 1,us ++ [(q2,N2,c2)],by omega,by go_num,by rw [List.length_append,uh HUS];rfl,d9 (by
      have h:=zcj (o:=k) zi (.slice q2 N2 c2) (uh RQ2) (by rw [List.length_map,uh HUS])
      rw [List.map_append,List.map_singleton]
      exact h),d9 ((d8 (uh HB) (uh HE2)).setCell (by simp only;omega) _),by simp only [World.size_setCell];omega,d9 (zcb (uh HUS) (uh HCJ) (fun j u ls h1 h2=>((uh HG j u ls h1 h2).below (uh HE2)).set (by omega) _ _) (((uh HE1).mono (by omega)).set (by omega) _ _))⟩,by simp [intOf];omega⟩
    ·have hkl:k=n:=by omega
     subst hkl
     have ki1:¬ (k:Int) < (k:Int):=by omega
     have RQ4:=uh RQr
     rw [List.drop_of_length_le (by have:=uh HCS;simp only [Array.length_toList];omega),List.append_nil,<- zc4] at RQ4
     have hO:OwnK Z8 37 1 (M.heap.size + 1) wr (some ⟨M.heap.size + 1,0,none⟩) k us:=by unfold OwnK;rw [uh HUS];exact RQ4
     have HO:=d9 hO
     clear RQ4 hO
     go_wp2
     refine bodyPost_ret (v:=.tuple #[.slice (some ⟨M.heap.size + 1,0,none⟩) k k,.int .i64 0]) (by simp [results,Tryz.results84,go_sem, *]) rfl ⟨⟨some ⟨M.heap.size + 1,0,none⟩,k,rfl,us,(uh HUS).trans (uh HN).symm,(uh HO).mono (by omega),fun j u ls h1 h2=>(uh HG j u ls h1 h2).mono (by omega)⟩,d8 (uh BM) BMr⟩
 ·have hE:Fe t m=pi t m:=by unfold Fe;rw [if_neg e0]
  have hCn:C0 t m=[]:=by unfold C0;rw [if_neg (by omega)]
  rw [hE,hCn]
  obtain ⟨A,hA⟩:∃ A,qh t m=A:=⟨_,rfl⟩
  obtain ⟨E,hEE⟩:∃ E,pi t m=E:=⟨_,rfl⟩
  rw [hA,hEE] at hPW
  rw [hEE] at e0
  rw [hEE]
  have e2:(E != 0)=true:=by simp [e0]
  clear hin bX x8 hE hCn hA hEE
  go_enter Tryz.func84,Tryz.ntmps84
  go_wp2_with (go_at_call 134;refine hPW.mono ?_;rintro e w1 ⟨rfl,b1⟩;have B1:=d9 b1;clear b1)
  refine bodyPost_ret (v:=.tuple #[.slice none 0 0,.int .i64 E]) (by simp [results,Tryz.results84,go_sem, *]) rfl ⟨⟨none,0,rfl,CjsNew.nil _ _⟩,d8 (uh BX) (uh B1)⟩
end Go.Proofs.YtimklglliffpcaaGreat
namespace Go.Proofs.YtimklglliffpcaaGreat
open Go.RowKit Go.Sort Go.Shelf
/-- The literals of a tree in form are in form. -/
theorem zcy:∀ (t:Nd) (neg:Bool),ms t=true->∀ c ∈ cjN (lr t neg),okL c=true:=by
  intro t
  induction t using Nd.ind with
  | h kind attr ints words lo hi op kids ih =>
    intro neg hc c hcm
    rcases pw hc with ⟨rfl,rfl,hp⟩ | ⟨rfl,⟨x,rfl,hx⟩,_⟩ | ⟨ho,h2,hl,_⟩
    · have:cjN (lr (.mk kind attr ints words lo hi 1 []) neg)=[[⟨kind,attr,ints,words,lo,hi,neg⟩]]:=by
        cases neg <;> simp [lr,Qo,Z3,cjN,Bm]
      rw [this] at hcm
      obtain rfl:c=[⟨kind,attr,ints,words,lo,hi,neg⟩]:=by simpa using hcm
      simpa [okL,Aq,Pd.ok] using hp
    · exact ih x (by simp) (!neg) hx c (by simpa [lr,J7] using hcm)
    · rw [Bt ho] at hcm
      have h3:=Nr ho neg
      generalize (if neg=true then sr op else op)=op2 at h3 hcm
      have hk:∀ y ∈ rd kids neg,∀ c ∈ cjN y,okL c=true:=fun y hy=>by
        obtain ⟨x,hx,rfl⟩:=zt hy
        exact ih x hx neg (rt hl x hx)
      generalize rd kids neg=ys at hk hcm
      rcases h3 with rfl | rfl
      · simp only [cjN,if_neg (show ¬ (3:Int)=4 by decide),if_true] at hcm
        have:∀ ys:List Nd,(∀ y ∈ ys,∀ c ∈ cjN y,okL c=true)->∀ c ∈ jx ys,okL c=true:=by
          intro ys
          induction ys with
          | nil=>intro _ c hc;simp [jx] at hc;subst hc;rfl
          | cons y ys ihk =>
            intro hy c hc
            simp only [jx,n9,List.mem_flatMap,List.mem_map] at hc
            obtain ⟨c1,h1,c2,h2,rfl⟩:=hc
            have a:=hy y (by simp) c1 h1
            have b:=ihk (fun z hz=>hy z (by simp [hz])) c2 h2
            unfold okL at *
            rw [List.all_append,a,b]
            rfl
        exact this ys hk c hcm
      · simp only [cjN,if_true] at hcm
        have:∀ ys:List Nd,(∀ y ∈ ys,∀ c ∈ cjN y,okL c=true)->∀ c ∈ pp ys,okL c=true:=by
          intro ys
          induction ys with
          | nil=>intro _ c hc;simp [pp] at hc
          | cons y ys ihk =>
            intro hy c hc
            simp only [pp,List.mem_append] at hc
            rcases hc with hc | hc
            · exact hy y (by simp) c hc
            · exact ihk (fun z hz=>hy z (by simp [hz])) c hc
        exact this ys hk c hcm
theorem X0 {t:Nd} {m:Int}:∀ c ∈ C0 t m,okL c=true:=by
 intro c hc
 unfold C0 at hc
 split at hc
 ·next h =>
  refine zcy t false ?_ c hc
  unfold Fe at h
  cases hk:ms t with
  | true=>rfl
  | false =>
   simp only [pi,hk] at h
   simp at h
 ·cases hc
theorem Mc {c:List Lt} (h:okL c=true):Ck c:=by
 intro l hl
 have h2:(Aq l).ok=true:=by
  unfold okL at h
  exact List.all_eq_true.1 h l hl
 unfold Pd.ok kg at h2
 rw [Bool.and_eq_true] at h2
 have:=h2.1
 unfold ko at this
 simp only [Bool.and_eq_true,decide_eq_true_eq] at this
 have h3:=this.1.1.2
 show (Aq l).attr.size<=maxLen
 unfold maxLen
 omega
theorem Me {t:Nd} {m:Int} (hwt:wtN t<=50000000):∀ c ∈ C0 t m,c.length<=100000000/\SmallL c:=by
 intro c hc
 have hc0:=hc
 unfold C0 at hc
 split at hc
 ·next h =>
  have hk:ms t=true:=by
   unfold Fe at h
   cases hk:ms t with
   | true=>rfl
   | false =>
    simp only [pi,hk] at h
    simp at h
  have hw:=Ca t false hk
  obtain ⟨a,b⟩:=Gm _ c hc
  exact ⟨by omega,fun l hl=>by obtain ⟨b1,b2⟩:=b l hl;exact ⟨by show l.ints.length<=_;omega,by show l.words.length<=_;omega⟩⟩
 ·cases hc
end Go.Proofs.YtimklglliffpcaaGreat
namespace Go.Proofs.YtimklglliffpcaaGreat
open Go.RowKit Go.Sort Go.Shelf
theorem td (l:List Cv):(flatK Bh 3 l.toArray).toList.length=l.length * 3:=by simp [flatK]
theorem Ny (x:Cv):(flatK Bh 3 [x].toArray).toList=[.bool x.never,.slice x.qp x.np x.cp,.slice x.qn x.nn x.cn]:=by simp [flatK,List.range_succ,Bh]
theorem zdh {B g cap:Nat} {w:World} {d:List Cv} (h:OwnK Bh 39 3 B w (some ⟨g,0,none⟩) cap d) {k:Nat} (hk:k < d.length) (x:Cv) :
  OwnK Bh 39 3 B (((w.setCell ⟨g,k * 3,none⟩ (.bool x.never)).setCell ⟨g,k * 3 + 1,none⟩ (.slice x.qp x.np x.cp)).setCell ⟨g,k * 3 + 2,none⟩ (.slice x.qn x.nn x.cn)) (some ⟨g,0,none⟩) cap (d.set k x):=by
 obtain ⟨e1,e2⟩:=H5 hk x
 unfold OwnK at *
 have h2:=(((h.stored (k * 3) (.bool x.never)).1.stored (k * 3 + 1) (.slice x.qp x.np x.cp)).1.stored (k * 3 + 2) (.slice x.qn x.nn x.cn)).1
 rw [List.length_set]
 have hl:(flatK Bh 3 (d.take k).toArray).toList.length=k * 3:=by rw [td,List.length_take];congr 1;omega
 have hf:(flatK Bh 3 (d.set k x).toArray).toList=((((flatK Bh 3 d.toArray).toList.set (k * 3) (.bool x.never)).set (k * 3 + 1) (.slice x.qp x.np x.cp)).set (k * 3 + 2) (.slice x.qn x.nn x.cn)):=by
  rw [e2]
  conv=>rhs;rw [e1]
  simp only [ma Bh 3 (by decide),Ny,List.append_assoc]
  simp [hl]
 rw [hf]
 exact h2
theorem zdq {B g cap:Nat} {w:World} {d:List Cv} (h:OwnK Bh 39 3 B w (some ⟨g,0,none⟩) cap d) {k:Nat} {x:Cv} (hk:d[k]? = some x):w.cell? ⟨g,k * 3,none⟩=some (.bool x.never)/\w.cell? ⟨g,k * 3 + 1,none⟩=some (.slice x.qp x.np x.cp)/\w.cell? ⟨g,k * 3 + 2,none⟩=some (.slice x.qn x.nn x.cn):=by
 obtain ⟨b,off,hq,_,hc⟩:=h.ls.2.2.2.at hk
 obtain ⟨rfl,rfl⟩:g=b/\0=off:=by injection hq with hq;injection hq with h1 h2 _;exact ⟨h1,h2⟩
 rw [Nat.zero_add] at hc
 exact ⟨hc 0 (by omega),hc 1 (by omega),hc 2 (by omega)⟩
theorem Tryz.info39:(Tryz.prog.info? 39).map (fun i=>(i.zero,i.size,i.bytes))=some (some (.agg #[.bool false,.slice none 0 0,.slice none 0 0]),3,56):=by kernel_rfl
def Eg:Cv:=⟨false,none,0,0,none,0,0⟩
theorem N0 (n:Nat):(madeCells (Value.agg #[.bool false,.slice none 0 0,.slice none 0 0]).cells (n * 3)).toList=(flatK Bh 3 (List.replicate n Eg).toArray).toList:=by
 apply List.ext_getElem?
 intro j
 by_cases hj:j < n * 3
 ·have h3:j % 3=0 ∨ j % 3=1 ∨ j % 3=2:=by omega
  have hq:j / 3 < n:=by omega
  rw [show j=j / 3 * 3 + j % 3 by omega,lj (enc:=Bh) (k:=3) (x:=Eg) (by rw [List.getElem?_replicate,if_pos hq]) (j % 3) (by omega),<- show j=j / 3 * 3 + j % 3 by omega]
  rw [Array.getElem?_toList]
  unfold madeCells
  rw [Array.getElem?_eq_getElem (by simpa [Value.cells] using hj)]
  simp only [Array.getElem_map,Array.getElem_range,Value.cells]
  rcases h3 with e | e | e <;> simp [e,Bh,Eg]
 ·rw [List.getElem?_eq_none (by rw [Array.length_toList,size_madeCells];omega),List.getElem?_eq_none (by rw [td];simp;omega)]
theorem zas (n:Nat) (h:n * 56<=140737488355328):∃ cur:Array Value,cur.toList=(flatK Bh 3 (List.replicate n Eg).toArray).toList/\∀ W:World,(Instr.makeSlice 57 (.int .i64 (n:Int)) (.int .i64 (n:Int))).run Tryz.prog W=.ok (.slice (some ⟨W.heap.size,0,none⟩) n n) (W.alloc (.cells cur 39)):=by
 obtain ⟨i0,hi,hz0,hz1,hz2⟩:=info_parts Tryz.info39
 refine ⟨madeCells (Value.agg #[.bool false,.slice none 0 0,.slice none 0 0]).cells (n * i0.size),by rw [hz1,N0],fun W=>?_⟩
 have:=run_make (P:=Tryz.prog) W 57 39 i0 _ Tryz.underlying57 hi hz0 .i64 .i64 (n:Int) (n:Int) (by omega) (by omega) (by rw [hz2];omega) (by omega)
 simpa only [Int.toNat_natCast] using this
theorem Te {w:World} {n:Nat} {cur:Array Value} (hn:n<=maxLen) (hs:cur.toList=(flatK Bh 3 (List.replicate n Eg).toArray).toList):OwnK Bh 39 3 w.heap.size (w.alloc (.cells cur 39)) (some ⟨w.heap.size,0,none⟩) n (List.replicate n Eg):=by
 refine ⟨by rw [td],Or.inr ⟨w.heap.size,n,cur, ?_,Nat.le_refl _,World.alloc_heap_new _ _,by simp,hn, ?_, ?_⟩⟩
 ·simp
 ·rw [<- Array.length_toList,hs,td];simp
 ·rw [hs,List.take_of_length_le (by rw [td];simp)]
/-- A conjunction in memory. -/
theorem geC {B g cap:Nat} {w:World} {d:List Cv} (h:OwnK Bh 39 3 B w (some ⟨g,0,none⟩) cap d):B<=g/\g < w.heap.size:=World.ownsRow.lt h g rfl
def CdIn (w:World) (v:Cv) (d:Cd):Prop:=v.never=d.never/\v.np=d.pos.length/\v.nn=d.neg.length/\PdsOf w v.qp v.cp d.pos/\PdsOf w v.qn v.cn d.neg
theorem CdNew.in {B:Nat} {w:World} {v:Cv} {d:Cd} (h:CdNew B w v d):CdIn w v d:=⟨h.1,h.2.1.1.symm,h.2.2.1.symm,h.2.1.preds,h.2.2.preds⟩
theorem CdIn.below {w w':World} {v:Cv} {d:Cd} (h:CdIn w v d) (hb:Below w.heap.size w w'):CdIn w' v d:=⟨h.1,h.2.1,h.2.2.1,h.2.2.2.1.below hb,h.2.2.2.2.below hb⟩
def CdsOf (w:World) (q:Option Addr) (c:Nat) (ds:List Cd):Prop:=∃ vs:List Cv,SlOf Bh 3 w q c vs/\vs.length=ds.length/\∀ (j:Nat) (v:Cv) (d:Cd),vs[j]? = some v->ds[j]? = some d->CdIn w v d
theorem CdsOf.below {w w':World} {q:Option Addr} {c:Nat} {ds:List Cd} (h:CdsOf w q c ds) (hb:Below w.heap.size w w'):CdsOf w' q c ds:=by
 obtain ⟨vs,h1,h2,h3⟩:=h
 exact ⟨vs,h1.below hb,h2,fun j v d hj hd=>(h3 j v d hj hd).below hb⟩
theorem CdsOf.at {w:World} {q:Option Addr} {c:Nat} {ds:List Cd} {j:Nat} {d:Cd} (h:CdsOf w q c ds) (hj:ds[j]? = some d):∃ b off v,q=some ⟨b,off,none⟩/\b < w.heap.size/\CdIn w v d/\w.cell? ⟨b,off + j * 3,none⟩=some (.bool v.never)/\w.cell? ⟨b,off + j * 3 + 1,none⟩=some (.slice v.qp v.np v.cp)/\w.cell? ⟨b,off + j * 3 + 2,none⟩=some (.slice v.qn v.nn v.cn):=by
 obtain ⟨vs,h1,h2,h3⟩:=h
 have hl:j < ds.length:=(List.getElem?_eq_some_iff.1 hj).1
 obtain ⟨v,hv,_⟩:=je (l:=vs) (k:=j) (by omega)
 obtain ⟨b,off,hq,hb,hc⟩:=h1.2.2.2.at hv
 exact ⟨b,off,v,hq,hb,h3 j v d hv hj,hc 0 (by omega),hc 1 (by omega),hc 2 (by omega)⟩
def Vm (t:Nd) (m:Int):List Cd:=(C0 t m).map tz
theorem Yl (t:Nd) (m:Int):(C0 t m).length<=64:=by
 unfold C0
 split
 ·next h =>
  unfold Fe at h
  by_cases h0:pi t m=0
  ·rw [if_pos h0] at h
   by_cases h1:qh t m > m
   ·rw [if_pos h1] at h;cases h
   ·obtain ⟨_,h2,h3,_,h5,_⟩:=Vz h0 h1
    omega
  ·rw [if_neg h0] at h;exact absurd h h0
 ·simp
set_option maxHeartbeats 4000000 in
set_option maxRecDepth 100000 in
/-- conj.All. -/
theorem X3 (t:Nd) (m:Int) (v:Nv) (w:World) (hin:NdIn w v t) (hwt:wtN t<=50000000) :
    Calls Tryz.prog 33 #[.agg #[.int .i64 v.kind,.string v.attr,.slice v.qi v.ni v.ci,.slice v.qw v.nw v.cw,.int .i64 v.lo,.int .i64 v.hi,.int .i64 v.op,.slice v.qk v.nk v.ck],.int .i64 m] w fun e w'=>(∃ q c,e=.returned (.tuple #[.slice q (Vm t m).length c,.int .i64 (Fe t m)])/\CdsOf w' q c (Vm t m))/\Below w.heap.size w w':=by
  obtain ⟨X,HX⟩:∃ X,w.alloc (.cells #[.int .i64 v.kind,.string v.attr,.slice v.qi v.ni v.ci,.slice v.qw v.nw v.cw,.int .i64 v.lo,.int .i64 v.hi,.int .i64 v.op,.slice v.qk v.nk v.ck] 56)=X:=⟨_,rfl⟩
  have bX:Below w.heap.size w X:=by rw [<- HX];exact (Below.refl _ _).alloc (Nat.le_refl _) _
  have x8:X.heap[w.heap.size]? = some (.cells #[.int .i64 v.kind,.string v.attr,.slice v.qi v.ni v.ci,.slice v.qw v.nw v.cw,.int .i64 v.lo,.int .i64 v.hi,.int .i64 v.op,.slice v.qk v.nk v.ck] 56 (0,0)):=by rw [<- HX];exact jf _ _
  obtain ⟨c0,c1,c2,c3,c4,c5,c6,c7⟩:=rj x8
  have hE:=Kd t m v X (hin.keep bX) (by omega)
  unfold Nv.val at hE
  have BX:=d9 bX
  have hsm:=Me (m:=m) hwt
  have hok:=X0 (t:=t) (m:=m)
  have hel:=Yl t m
  have HAL:=d9 (show Vm t m=(C0 t m).map tz from rfl)
  obtain ⟨cs,hcs⟩:∃ cs,C0 t m=cs:=⟨_,rfl⟩
  have HZ0:=d9 (show ¬ Fe t m=0->Vm t m=[] from fun h0=>by unfold Vm C0;rw [if_neg h0];rfl)
  rw [hcs] at hE hsm hok hel HAL
  obtain ⟨er,her⟩:∃ er,Fe t m=er:=⟨_,rfl⟩
  rw [her] at hE HZ0 ⊢
  have HSM:=d9 hsm
  have HOK:=d9 hok
  clear hin bX x8 hsm hok hcs her
  by_cases h0:er=0
  · subst h0
    go_enter Tryz.func33,Tryz.ntmps33
    go_upto_region 4 with (go_at_call 84;refine hE.mono ?_;rintro e w1 ⟨⟨q1,cc1,rfl,hC1⟩,b1⟩;have B1:=d9 b1;have C1:=d9 hC1;clear b1 hC1)
    obtain ⟨n,hn⟩:∃ n,cs.length=n:=⟨_,rfl⟩
    rw [hn] at hel ⊢
    obtain ⟨cur,hcu,hmk⟩:=zas n (by omega)
    obtain ⟨Y,HY⟩:∃ Y,w1.alloc (.cells cur 39)=Y:=⟨_,rfl⟩
    have bY:Below w1.heap.size w1 Y:=by rw [<- HY];exact (Below.refl _ _).alloc (Nat.le_refl _) _
    have HO:=d9 (show OwnK Bh 39 3 w1.heap.size Y (some ⟨w1.heap.size,0,none⟩) n (List.replicate n Eg) by rw [<- HY];exact Te (by unfold maxLen;omega) hcu)
    have HN:=d9 hn
    have BY:=d9 bY
    have i9:(n:Int)<=64:=by omega
    clear hcu bY hn c0 c1 c2 c3 c4 c5 c6 c7 hE
    go_wp2
    go_loopw [25] (fun iv wr=>∃ (k:Nat) (vs:List Cv),k<=n/\iv=.int .i64 k/\Hid (vs.length=n/\OwnK Bh 39 3 w1.heap.size wr (some ⟨w1.heap.size,0,none⟩) n vs/\∀ (j:Nat) (x:Cv) (l:List Lt),j < k->vs[j]? = some x->cs[j]? = some l->CdNew (w1.heap.size + 1) wr x (tz l))/\Hid (Below w1.heap.size w1 wr)) (fun iv _=>n - (intOf iv).toNat)
    case atStart=>exact ⟨0,List.replicate n Eg,Nat.zero_le _,rfl,d9 ⟨by simp,uh HO,fun j x l hj=>absurd hj (by omega)⟩,BY⟩
    case round =>
      obtain ⟨k,vs,hk,rfl,HR,HB⟩:=hrel
      by_cases hlt:k < n
      · obtain ⟨l,hx,_⟩:=je (l:=cs) (k:=k) (by rw [uh HN];exact hlt)
        obtain ⟨us,u1,u2,u3⟩:=uh C1
        obtain ⟨u,hu,_⟩:=je (l:=us) (k:=k) (by rw [u1,uh HN];exact hlt)
        have hG:=u3 k u l hu hx
        obtain ⟨b,off,hq,hbb,hcc⟩:=u2.ls.2.2.2.at hu
        subst hq
        have g0:wr.cell? ⟨b,off + k,none⟩=some (.slice u.1 u.2.1 u.2.2):=by
          have:=((uh HB).cell (p:=⟨b,off + k * 1 + 0,none⟩) hbb).trans (hcc 0 (by omega))
          rw [Nat.mul_one,Nat.add_zero] at this
          exact this
        obtain ⟨v1,v2,v3⟩:=uh HR
        obtain ⟨z,hz,_⟩:=je (l:=vs) (k:=k) (by omega)
        have ki0:(0:Int)<=(k:Int):=by omega
        have ki1:(k:Int) < (n:Int):=by omega
        obtain ⟨a1,a2⟩:=uh HSM l (List.mem_of_getElem? hx)
        have hM:=Cn u.1 u.2.2 l wr ((hG.lits).below (uh HB)) a2 (Mc (uh HOK l (List.mem_of_getElem? hx))) a1
        rw [hG.1] at hM
        have HX:=d9 hx
        have hwr:w1.heap.size < wr.heap.size:=(geC v2).2
        have HV2:=d9 v2
        have HV3:=d9 v3
        have HV1:=d9 v1
        have HZ:=d9 hz
        have hcell:∀ W,Below wr.heap.size wr W->(W.cell? ⟨w1.heap.size,k * 3,none⟩=some (.bool z.never)/\W.cell? ⟨w1.heap.size,k * 3 + 1,none⟩=some (.slice z.qp z.np z.cp)/\W.cell? ⟨w1.heap.size,k * 3 + 2,none⟩=some (.slice z.qn z.nn z.cn))/\∀ o,W.frozen? ⟨w1.heap.size,o,none⟩=false:=fun W hW=>⟨zdq ((uh HV2).below hW) (uh HZ),fun o=>World.ownsRow.frozenAt ((uh HV2).below hW) o⟩
        have HC:=d9 hcell
        clear hG hcc u3 u2 u1 hu v1 v2 v3 hx hcell hz
        go_wp2_with (go_at_call 24;refine hM.mono ?_;rintro e w2 ⟨⟨y,rfl,hy⟩,b2⟩;obtain ⟨⟨y0,y1,y2⟩,yf⟩:=uh HC w2 b2;have B2:=d9 b2;have YY:=d9 hy;clear b2 hy)
        go_roundw
        case rel =>
          have hg9:w1.heap.size < w1.heap.size + 1:=Nat.lt_succ_self _
          refine ⟨k + 1,vs.set k y,by omega,by go_num,d9 ⟨by rw [List.length_set];exact uh HV1,zdh ((uh HV2).below (uh B2)) (by rw [uh HV1];exact hlt) y,fun j x l2 hj hx2 hl2=>?_⟩,d9 ((((d8 (uh HB) (uh B2)).setCell (p:=⟨w1.heap.size,k * 3,none⟩) (Nat.le_refl _) _).setCell (p:=⟨w1.heap.size,k * 3 + 1,none⟩) (Nat.le_refl _) _).setCell (p:=⟨w1.heap.size,k * 3 + 2,none⟩) (Nat.le_refl _) _)⟩
          have hfin:CdNew (w1.heap.size + 1) w2 x (tz l2):=by
            by_cases e:j=k
            · subst e
              rw [List.getElem?_set_self (by rw [uh HV1];exact hlt)] at hx2
              cases hx2
              rw [uh HX] at hl2
              cases hl2
              exact (uh YY).mono hwr
            · rw [List.getElem?_set_ne (fun e2=>e e2.symm)] at hx2
              exact (uh HV3 j x l2 (by omega) hx2 hl2).below (uh B2)
          exact ((hfin.setB hg9 _ _).setB hg9 _ _).setB hg9 _ _
        case measure=>simp [intOf];omega
      · have ki1:¬ (k:Int) < (n:Int):=by omega
        go_wp2
        refine bodyPost_ret (v:=.tuple #[.slice (some ⟨w1.heap.size,0,none⟩) n n,.int .i64 0]) (by simp [results,Tryz.results33,go_sem, *]) rfl ?_
        obtain ⟨v1,v2,v3⟩:=uh HR
        have hlen:(Vm t m).length=n:=by rw [uh HAL,List.length_map,uh HN]
        refine ⟨⟨some ⟨w1.heap.size,0,none⟩,n,by rw [hlen],⟨vs,v2.ls,by rw [v1,hlen],fun j x d hj hd=>?_⟩⟩,(uh BX).trans (((uh B1).trans ((uh HB).mono (uh B1).size)).mono (uh BX).size)⟩
        rw [uh HAL,List.getElem?_map] at hd
        obtain ⟨l,hl2,rfl⟩:=Option.map_eq_some_iff.1 hd
        exact (v3 j x l (by have:=(List.getElem?_eq_some_iff.1 hj).1;omega) hj hl2).in
  · have hb0:(er != 0)=true:=by simp [h0]
    have HNIL:=d9 (uh HZ0 h0)
    clear h0
    go_enter Tryz.func33,Tryz.ntmps33
    go_upto_region 2 with (go_at_call 84;refine hE.mono ?_;rintro e w1 ⟨⟨q1,cc1,rfl,hC1⟩,b1⟩;have B1:=d9 b1;clear b1 hC1)
    go_wp2
    refine bodyPost_ret (v:=.tuple #[.slice none 0 0,.int .i64 er]) (by simp [results,Tryz.results33,go_sem, *]) rfl ?_
    rw [uh HNIL]
    exact ⟨⟨none,0,rfl,[],SlOf.none _,rfl,fun j v d h=>by simp at h⟩,d8 (uh BX) (uh B1)⟩
end Go.Proofs.YtimklglliffpcaaGreat
namespace Go.Proofs.YtimklglliffpcaaGreat
open Go.RowKit Go.Sort Go.Shelf
theorem pj {l l':List Int} (h1:∀ x,x ∈ l' ↔ x ∈ l) (h2:l'.Pairwise (· < ·)):mx l=l':=by
 obtain ⟨m,s,_⟩:=nh l
 have nd:∀ {k:List Int},k.Pairwise (· < ·)->k.Nodup:=fun h=>h.imp fun {a b} hab e=>by omega
 exact List.Perm.eq_of_pairwise (le:=fun a b:Int=>a < b) (fun a b _ _ h1 h2=>by omega) s h2 ((List.perm_ext_iff_of_nodup (nd s) (nd h2)).2 fun x=>(m x).trans (h1 x).symm)
theorem Ee {a b:ByteArray} (h1:ltS a b) (h2:ltS b a):False:=by
 unfold ltS at *
 have:=isCmp_B.neg a b
 unfold kp at this
 omega
theorem Kc {a:ByteArray} (h:ltS a a):False:=Ee h h
theorem rn {l l':List ByteArray} (h1:∀ x,x ∈ l' ↔ x ∈ l) (h2:l'.Pairwise ltS):mq l=l':=by
 obtain ⟨m,s,_⟩:=mj l
 have nd:∀ {k:List ByteArray},k.Pairwise ltS->k.Nodup:=fun h=>h.imp fun {a b} hab e=>by subst e;exact Kc hab
 exact List.Perm.eq_of_pairwise (le:=ltS) (fun a b _ _ h1 h2=>(Ee h1 h2).elim) s h2 ((List.perm_ext_iff_of_nodup (nd s) (nd h2)).2 fun x=>(m x).trans (h1 x).symm)
abbrev nmA:ByteArray:=⟨#[97]⟩
abbrev nmC:ByteArray:=⟨#[99]⟩
abbrev wX:ByteArray:=⟨#[120]⟩
abbrev wXY:ByteArray:=⟨#[120,121]⟩
def T1:Nd:=.mk 1 nmA [3,1,5] [] 0 0 1 []
def T2:Nd:=.mk 3 nmA [] [] 2 9 1 []
def T3:Nd:=.mk 4 nmC [] [wX] 0 0 1 []
def T4:Nd:=.mk 1 nmA [3] [] 0 0 1 []
def T5:Nd:=.mk 3 nmA [] [] 5 3 1 []
def Ls1:List Lt:=[⟨1,nmA,[3,1,5],[],0,0,false⟩,⟨3,nmA,[],[],2,9,false⟩,⟨4,nmC,[],[wX],0,0,false⟩,⟨1,nmA,[3],[],0,0,true⟩]
def Ls2:List Lt:=[⟨3,nmA,[],[],5,3,false⟩]
def P1:Pd:=⟨1,nmA,[3,5],[],0,0⟩
def P2:Pd:=⟨4,nmC,[],[wX],0,0⟩
def P3:Pd:=⟨1,nmA,[3],[],0,0⟩
theorem ok1:okL Ls1=true:=by decide
theorem ok2:okL Ls2=true:=by decide
theorem zdo:mx [3,1,5]=[1,3,5]:=pj (by intro x;simp;omega) (by decide)
theorem n3:mx [3]=[3]:=pj (by intro x;simp) (by decide)
theorem zdt:mx [2,1,2]=[1,2]:=pj (by intro x;simp;omega) (by decide)
theorem n35:mx [3,5]=[3,5]:=pj (by intro x;simp) (by decide)
theorem sAC:ltS nmA nmC:=by unfold ltS;decide
theorem zcm:Qh Ls1=[⟨1,nmA,[3,1,5],[],0,0⟩,⟨3,nmA,[],[],2,9⟩,P2]:=rfl
theorem zbm:qd Ls1=[nmA,nmC]:=by
 unfold qd
 rw [zcm]
 refine rn (fun x=>?_) (List.Pairwise.cons (fun y hy=>by obtain rfl:y=nmC:=(by simpa using hy);exact sAC) (List.pairwise_singleton _ _))
 simp [P2]
theorem zdu:tx Ls1 nmA=[⟨1,nmA,[3,1,5],[],0,0⟩,⟨3,nmA,[],[],2,9⟩]:=by decide
theorem zdm:tx Ls1 nmC=[P2]:=by decide
theorem zcx:kz (tx Ls1 nmA)=some P1:=by
 rw [zdu]
 have h1:jr ⟨1,nmA,[3,1,5],[],0,0⟩=some ⟨1,nmA,[1,3,5],[],0,0⟩:=by
  rw [qt (by decide) rfl,zdo]
 have h2:jr ⟨3,nmA,[],[],2,9⟩=some ⟨3,nmA,[],[],2,9⟩:=by
  rw [qv (by decide) rfl];rfl
 simp only [kz,kr,h1,h2]
 decide
theorem zce:kz (tx Ls1 nmC)=some P2:=by
 rw [zdm]
 simp only [kz,kr]
 rw [ta (by decide) rfl]
 rfl
theorem zdl:Qp Ls1=some [P1,P2]:=by
 unfold Qp
 rw [zbm]
 simp only [yg,zcx,zce]
 rfl
theorem zak:jr P3=some P3:=by
 show jr ⟨1,nmA,[3],[],0,0⟩=_
 rw [qt (by decide) rfl,n3]
 rfl
theorem zb9:jr P1=some P1:=by
 show jr ⟨1,nmA,[3,5],[],0,0⟩=_
 rw [qt (by decide) rfl,n35]
 rfl
theorem zcu:jr P2=some P2:=by
 show jr ⟨4,nmC,[],[wX],0,0⟩=_
 rw [ta (by decide) rfl]
 rfl
theorem zdf:Ml Ls1=[P3]:=by
 have h:Ps Ls1=[P3]:=by
  show [⟨1,nmA,[3],[],0,0⟩].filterMap jr=_
  simp only [List.filterMap_cons,List.filterMap_nil]
  rw [show jr ⟨1,nmA,[3],[],0,0⟩=some P3 from zak]
 unfold Ml
 rw [h,<- Pf (List.Perm.refl _) (List.pairwise_singleton _ _)]
 rfl
theorem zck:tz Ls1=⟨false,[P1,P2],[P3]⟩:=by
 unfold tz Qi
 rw [ok1,zdl,zdf]
 rfl
theorem zcv:tz Ls2=⟨true,[],[]⟩:=by
 have h1:qd Ls2=[nmA]:=by
  unfold qd
  refine rn (fun x=>?_) (List.pairwise_singleton _ _)
  show _ ↔ x ∈ [nmA]
  exact Iff.rfl
 have h2:kz (tx Ls2 nmA)=none:=by
  rw [show tx Ls2 nmA=[⟨3,nmA,[],[],5,3⟩] by decide]
  simp only [kz,kr]
  rw [qv (by decide) rfl]
  rfl
 unfold tz Qi Qp
 rw [ok2,h1]
 simp only [yg,h2]
 rfl
theorem zc0:qu false [P1,P2] [P3]=0:=by
 have h:px false [P1,P2] [P3]=true:=by
  have a:∀ k,k < 2->qf K5 [P1,P2] k=true:=fun k hk=>by
   have hm:k=0 ∨ k=1:=by omega
   rcases hm with rfl | rfl
   ·have:pu P1=true:=by unfold pu;rw [zb9];simp
    simp [qf,this]
   ·have:pu P2=true:=by unfold pu;rw [zcu];simp
    simp only [qf]
    show (pu P2 && _)=true
    rw [this]
    decide
  have b:qf pe [P3] 0=true:=by
   have:pu P3=true:=by unfold pu;rw [zak];simp
   simp [qf,this]
  unfold px
  rw [if_neg (by simp),Bool.and_eq_true]
  refine ⟨?_, ?_⟩
  ·unfold Fd
   rw [List.all_eq_true]
   intro k hk
   exact a k (by simpa using hk)
  ·unfold Fd
   rw [List.all_eq_true]
   intro k hk
   have:k < 1:=by simpa using hk
   obtain rfl:k=0:=by omega
   exact b
 unfold qu
 rw [h]
 rfl
def five:List Pr:=[⟨nmA,1,5,⟨#[]⟩⟩,⟨nmC,2,0,wXY⟩]
theorem zb6:(nmA.toList == nmC.toList)=false:=by rw [ByteArray.toList_eq,ByteArray.toList_eq];decide
theorem zc7:qr nmA five=some ⟨nmA,1,5,⟨#[]⟩⟩:=by simp [qr,five]
theorem zde:qr nmC five=some ⟨nmC,2,0,wXY⟩:=by
 show (if (nmA.toList == nmC.toList)=true then _ else qr nmC [⟨nmC,2,0,wXY⟩])=_
 rw [zb6]
 simp [qr]
theorem zaa:rh false [P1,P2] [P3] five=true:=by
 have h1:mm five P1=true:=by
  unfold mm mr
  rw [show qr P1.attr five=some ⟨nmA,1,5,⟨#[]⟩⟩ from zc7]
  decide
 have h2:mm five P2=true:=by
  unfold mm mr
  rw [show qr P2.attr five=some ⟨nmC,2,0,wXY⟩ from zde]
  have hpf:ll wXY wX=true:=by unfold ll;rw [ByteArray.toList_eq,ByteArray.toList_eq];decide
  have ht:mc 4 [] [wX] 0 0 ⟨nmC,2,0,wXY⟩=true:=by simp [mc,hpf]
  have hp:kg 4 nmC [] [wX] 0 0=true:=by decide
  have hc:rx 2 0 wXY=0:=by decide
  show (kg 4 nmC [] [wX] 0 0 && (decide (rx 2 0 wXY=0) && mc 4 [] [wX] 0 0 ⟨nmC,2,0,wXY⟩))=true
  rw [hp,ht,hc]
  rfl
 have h3:mm five P3=false:=by
  unfold mm mr
  rw [show qr P3.attr five=some ⟨nmA,1,5,⟨#[]⟩⟩ from zc7]
  decide
 simp [rh,h1,h2,h3]
theorem zcz:kz [⟨3,nmA,[],[],1,5⟩,⟨3,nmA,[],[],5,9⟩]=some ⟨1,nmA,[5],[],0,0⟩:=by
 have h1:jr ⟨3,nmA,[],[],1,5⟩=some ⟨3,nmA,[],[],1,5⟩:=by rw [qv (by decide) rfl];rfl
 have h2:jr ⟨3,nmA,[],[],5,9⟩=some ⟨3,nmA,[],[],5,9⟩:=by rw [qv (by decide) rfl];rfl
 simp only [kz,kr,h1,h2]
 decide
theorem zc2:jr ⟨1,nmA,[2,1,2],[],0,0⟩=some ⟨1,nmA,[1,2],[],0,0⟩:=by
 rw [qt (by decide) rfl,zdt]
theorem zdx:pe ⟨1,nmA,[5],[],0,0⟩ ⟨1,nmA,[1,2],[],0,0⟩=1:=by decide
theorem zc5:Fe (At 4 [T1,T2]) 2=0/\(C0 (At 4 [T1,T2]) 2).length=2:=by decide
end Go.Proofs.YtimklglliffpcaaGreat
namespace Go.Proofs.YtimklglliffpcaaGreat
open Go.RowKit Go.Sort
set_option maxHeartbeats 2000000 in
theorem Lq (attr:ByteArray) (lo hi:Int) (w:World) :
  Calls Tryz.prog 44 #[.string attr,.int .i64 lo,.int .i64 hi] w fun e w'=>NewT w.heap.size w' (.mk 3 attr [] [] lo hi 1 []) e/\Below w.heap.size w w':=by
 have B0:=d9 ((Below.refl w.heap.size w).alloc (Nat.le_refl _) (.cells #[.int .i64 0,.string ⟨#[]⟩,.slice none 0 0,.slice none 0 0,.int .i64 0,.int .i64 0,.int .i64 0,.slice none 0 0] 56))
 go_enter Tryz.func44,Tryz.ntmps44
 go_wp2_with (first
  | (go_at_call 96;refine (By _ _ _ _ _ _ _ _ _ _ _).mono ?_;rintro e w2 ⟨rfl,b2⟩;obtain ⟨z1,⟨r0,r1,r2,r3,r4,r5,r6,r7⟩,rf⟩:=Z6 (b2);have B2:=d9 b2;clear b2))
 refine bodyPost_ret (v:=.agg #[.int .i64 3,.string attr,.slice none 0 0,.slice none 0 0,.int .i64 lo,.int .i64 hi,.int .i64 1,.slice none 0 0]) (by simp [results,Tryz.results44,go_sem, *]) rfl ?_
 refine ⟨⟨⟨3,attr,none,0,0,none,0,0,lo,hi,1,none,0,0⟩,rfl, ?_⟩,j4 (d8 (uh B0) (uh B2)) (Nat.le_refl _) _ _ _ _ _ _ _ _⟩
 exact NdFrom.make (ints:=[]) (words:=[]) (kids:=[]) (vs:=[]) (SlOf.none _) li (SlOf.none _) li (SlOf.none _) li rfl (fun j v x h=>by simp at h)
set_option maxHeartbeats 2000000 in
theorem Kl (attr:ByteArray) (s:ByteArray) (w:World) :
  Calls Tryz.prog 46 #[.string attr,.string s] w fun e w'=>NewT w.heap.size w' (.mk 4 attr [] [s] 0 0 1 []) e/\Below w.heap.size w w':=by
 have B0:=d9 ((Below.refl w.heap.size w).alloc (Nat.le_refl _) (.cells #[.int .i64 0,.string ⟨#[]⟩,.slice none 0 0,.slice none 0 0,.int .i64 0,.int .i64 0,.int .i64 0,.slice none 0 0] 56))
 go_enter Tryz.func46,Tryz.ntmps46
 go_wp2_with (first
  | (go_at_call 96;refine (By _ _ _ _ _ _ _ _ _ _ _).mono ?_;rintro e w2 ⟨rfl,b2⟩;obtain ⟨z1,⟨r0,r1,r2,r3,r4,r5,r6,r7⟩,rf⟩:=Z6 (d8 ((Below.refl _ _).alloc (Nat.le_refl _) _) b2);have B2:=d9 b2;clear b2))
 refine bodyPost_ret (v:=.agg #[.int .i64 4,.string attr,.slice none 0 0,.slice (some ⟨w.heap.size + 1,0,none⟩) 1 1,.int .i64 0,.int .i64 0,.int .i64 1,.slice none 0 0]) (by simp [results,Tryz.results46,go_sem, *]) rfl ?_
 have s2:=(uh B2).size
 simp at s2
 have hcell:((w.alloc (.cells #[.int .i64 0,.string ⟨#[]⟩,.slice none 0 0,.slice none 0 0,.int .i64 0,.int .i64 0,.int .i64 0,.slice none 0 0] 56)).alloc (.cells #[.string s] 9)).cell? ⟨w.heap.size + 1,0,none⟩=some (.string s):=by go_simp
 have hw1:SlOf jy 1 ((w.alloc (.cells #[.int .i64 0,.string ⟨#[]⟩,.slice none 0 0,.slice none 0 0,.int .i64 0,.int .i64 0,.int .i64 0,.slice none 0 0] 56)).alloc (.cells #[.string s] 9)) (some ⟨w.heap.size + 1,0,none⟩) 1 [s]:=⟨(fun h=>by cases h),Nat.le_refl _,(by unfold maxLen;omega),LsOf.one (by simp) (fun c hc=>by
  have h0:c=0:=(by omega)
  rw [h0];exact hcell)⟩
 have f1:∀ a:Addr,some (⟨w.heap.size + 1,0,none⟩:Addr)=some a->w.heap.size + 1<=a.block:=fun a e=>by cases e;exact Nat.le_refl _
 refine ⟨⟨⟨4,attr,none,0,0,some ⟨w.heap.size + 1,0,none⟩,1,1,0,0,1,none,0,0⟩,rfl, ?_⟩,j4 (d8 ((uh B0).alloc (by simp) _) (uh B2)) (Nat.le_refl _) _ _ _ _ _ _ _ _⟩
 exact (NdFrom.make (kids:=[]) (vs:=[]) (SlOf.none _) li (hw1.up f1 ((SameUp.of (uh B2)).trans (mo (B:=w.heap.size + 1) (g:=w.heap.size) _ (Nat.lt_succ_self _) _ _ _ _ _ _ _ _))) f1 (SlOf.none _) li rfl (fun j v x h=>by simp at h)).mono (Nat.le_succ _)
end Go.Proofs.YtimklglliffpcaaGreat
namespace Go.Proofs.YtimklglliffpcaaGreat
open Go.RowKit Go.Sort Go.Shelf
/-- A row whose cells are told one by one. -/
theorem Z7 {α:Type} [Inhabited α] {enc:α->List Value} {k:Nat} {w:World} {M:Nat} {cur:Array Value} {T:TypeId} (l:List α) (n:Nat) (h:w.heap[M]? = some (.cells cur T (0,0))) (hf:(flatK enc k l.toArray).toList=cur.toList) (hl:l.length=n) (hm:n<=maxLen):SlOf enc k w (some ⟨M,0,none⟩) n l:=by
  subst hl
  refine ⟨(fun e=>by cases e),Nat.le_refl _,hm,fun _=>⟨M,0,rfl,(Array.getElem?_eq_some_iff.1 h).1,fun j u hj=>?_⟩⟩
  rw [hf] at hj
  rw [Nat.zero_add]
  unfold World.cell?
  simpa [h] using hj
def Nv.pv (v:Nv):Pv:=⟨v.kind,v.attr,v.qi,v.ni,v.ci,v.qw,v.nw,v.cw,v.lo,v.hi⟩
def Nv.lv (v:Nv) (b:Bool):Lv:=⟨v.kind,v.attr,v.qi,v.ni,v.ci,v.qw,v.nw,v.cw,v.lo,v.hi,b⟩
theorem vw {w:World} {v:Nv} {kind:Int} {attr:ByteArray} {ints:List Int} {words:List ByteArray} {lo hi op:Int} {kids:List Nd} (h:NdIn w v (.mk kind attr ints words lo hi op kids)) (b:Bool):LitIn w (v.lv b) ⟨kind,attr,ints,words,lo,hi,b⟩:=by
 obtain ⟨qi,ci,qw,cw,qk,ck,rfl,h1,h2,_⟩:=h.parts
 exact ⟨rfl,rfl,rfl,rfl,rfl,rfl,rfl,h1,h2⟩
theorem Fw {w:World} {v:Nv} {kind:Int} {attr:ByteArray} {ints:List Int} {words:List ByteArray} {lo hi op:Int} {kids:List Nd} (h:NdIn w v (.mk kind attr ints words lo hi op kids)):PdIn w v.pv ⟨kind,attr,ints,words,lo,hi⟩:=by
 obtain ⟨qi,ci,qw,cw,qk,ck,rfl,h1,h2,_⟩:=h.parts
 exact ⟨rfl,rfl,rfl,rfl,rfl,rfl,h1,h2⟩
set_option maxHeartbeats 1000000 in
set_option maxRecDepth 100000 in
/-- The law's lit. -/
theorem Fs (v:Nv) (b:Bool) (w:World):Calls Tryz.prog 45 #[.agg #[.int .i64 v.kind,.string v.attr,.slice v.qi v.ni v.ci,.slice v.qw v.nw v.cw,.int .i64 v.lo,.int .i64 v.hi,.int .i64 v.op,.slice v.qk v.nk v.ck],.bool b] w fun e w'=>e=.returned (.agg #[.int .i64 v.kind,.string v.attr,.slice v.qi v.ni v.ci,.slice v.qw v.nw v.cw,.int .i64 v.lo,.int .i64 v.hi,.bool b])/\Below w.heap.size w w':=by
  obtain ⟨X,HX⟩:∃ X,(w.alloc (.cells #[.int .i64 v.kind,.string v.attr,.slice v.qi v.ni v.ci,.slice v.qw v.nw v.cw,.int .i64 v.lo,.int .i64 v.hi,.int .i64 v.op,.slice v.qk v.nk v.ck] 56)).alloc (.cells #[.int .i64 0,.string ⟨#[]⟩,.slice none 0 0,.slice none 0 0,.int .i64 0,.int .i64 0,.bool false] 64)=X:=⟨_,rfl⟩
  obtain ⟨hX0,hX1,hwX,hXs⟩:=Li HX
  obtain ⟨y0,y1,y2,y3,y4,y5,y6⟩:=Xp hX1
  obtain ⟨x0,x1,x2,x3,x4,x5,x6,x7⟩:=rj hX0
  have yf:∀ o,X.frozen? ⟨w.heap.size + 1,o,none⟩=false:=fun o=>gy hX1
  have BX:=d9 hwX
  clear hwX hX0 hX1 hXs
  go_enter Tryz.func45,Tryz.ntmps45
  go_wp2
  refine bodyPost_ret (v:=.agg #[.int .i64 v.kind,.string v.attr,.slice v.qi v.ni v.ci,.slice v.qw v.nw v.cw,.int .i64 v.lo,.int .i64 v.hi,.bool b]) (by simp [results,Tryz.results45,go_sem, *]) rfl ⟨rfl, ?_⟩
  exact ((((((((uh BX).setCell (p:=⟨w.heap.size + 1,0,none⟩) (Nat.le_succ _) _).setCell (p:=⟨w.heap.size + 1,1,none⟩) (Nat.le_succ _) _).setCell (p:=⟨w.heap.size + 1,2,none⟩) (Nat.le_succ _) _).setCell (p:=⟨w.heap.size + 1,3,none⟩) (Nat.le_succ _) _).setCell (p:=⟨w.heap.size + 1,4,none⟩) (Nat.le_succ _) _).setCell (p:=⟨w.heap.size + 1,5,none⟩) (Nat.le_succ _) _).setCell (p:=⟨w.heap.size + 1,6,none⟩) (Nat.le_succ _) _)
/-- What a builder of trees answers. -/
def zbp (w':World) (t:Nd) (e:Ending):Prop:=∃ v,e=.returned (.agg #[.int .i64 v.kind,.string v.attr,.slice v.qi v.ni v.ci,.slice v.qw v.nw v.cw,.int .i64 v.lo,.int .i64 v.hi,.int .i64 v.op,.slice v.qk v.nk v.ck])/\NdIn w' v t
theorem NewT.nv {B:Nat} {w':World} {t:Nd} {e:Ending} (h:NewT B w' t e):zbp w' t e:=by
 obtain ⟨v,h1,h2⟩:=h
 exact ⟨v,h1,h2.toIn⟩
theorem Vi (l:List Int) (n M:Nat) (W:World) {cur:Array Value} (h:W.heap[M]? = some (.cells cur 3 (0,0))) (hc:(flatK jq 1 l.toArray).toList=cur.toList) (hn:l.length=n) (hm:n<=1000):Calls Tryz.prog 43 #[.string nmA,.slice (some ⟨M,0,none⟩) n n] W fun e w'=>zbp w' (.mk 1 nmA l [] 0 0 1 []) e/\Below W.heap.size W w':=by
 subst hn
 exact (Vc nmA (some ⟨M,0,none⟩) l.length l W (Z7 l l.length h hc rfl (by unfold maxLen;omega)) (by omega)).mono fun e w' ⟨h1,h2⟩=>⟨h1.nv,h2⟩
theorem Jf (lo hi:Int) (W:World):Calls Tryz.prog 44 #[.string nmA,.int .i64 lo,.int .i64 hi] W fun e w'=>zbp w' (.mk 3 nmA [] [] lo hi 1 []) e/\Below W.heap.size W w':=(Lq nmA lo hi W).mono fun _ _ ⟨h1,h2⟩=>⟨h1.nv,h2⟩
theorem zbx (W:World):Calls Tryz.prog 46 #[.string nmC,.string wX] W fun e w'=>zbp w' T3 e/\Below W.heap.size W w':=(Kl nmC wX W).mono fun _ _ ⟨h1,h2⟩=>⟨h1.nv,h2⟩
theorem Ya (v1 v2 v3 v4:Nv) (b1 b2 b3 b4:Bool):(flatK Jy 7 [v1.lv b1,v2.lv b2,v3.lv b3,v4.lv b4].toArray).toList=[.int .i64 v1.kind,.string v1.attr,.slice v1.qi v1.ni v1.ci,.slice v1.qw v1.nw v1.cw,.int .i64 v1.lo,.int .i64 v1.hi,.bool b1,.int .i64 v2.kind,.string v2.attr,.slice v2.qi v2.ni v2.ci,.slice v2.qw v2.nw v2.cw,.int .i64 v2.lo,.int .i64 v2.hi,.bool b2,.int .i64 v3.kind,.string v3.attr,.slice v3.qi v3.ni v3.ci,.slice v3.qw v3.nw v3.cw,.int .i64 v3.lo,.int .i64 v3.hi,.bool b3,.int .i64 v4.kind,.string v4.attr,.slice v4.qi v4.ni v4.ci,.slice v4.qw v4.nw v4.cw,.int .i64 v4.lo,.int .i64 v4.hi,.bool b4]:=by simp [flatK,List.range_succ,Jy,Nv.lv]
theorem Zf (v1:Nv) (b1:Bool):(flatK Jy 7 [v1.lv b1].toArray).toList=[.int .i64 v1.kind,.string v1.attr,.slice v1.qi v1.ni v1.ci,.slice v1.qw v1.nw v1.cw,.int .i64 v1.lo,.int .i64 v1.hi,.bool b1]:=by simp [flatK,List.range_succ,Jy,Nv.lv]
theorem X5 (v1 v2:Nv):(flatK sc 6 [v1.pv,v2.pv].toArray).toList=[.int .i64 v1.kind,.string v1.attr,.slice v1.qi v1.ni v1.ci,.slice v1.qw v1.nw v1.cw,.int .i64 v1.lo,.int .i64 v1.hi,.int .i64 v2.kind,.string v2.attr,.slice v2.qi v2.ni v2.ci,.slice v2.qw v2.nw v2.cw,.int .i64 v2.lo,.int .i64 v2.hi]:=by simp [flatK,List.range_succ,sc,Nv.pv]
theorem Zk (v1 v2:Nv):(flatK rb 8 [v1,v2].toArray).toList=[.int .i64 v1.kind,.string v1.attr,.slice v1.qi v1.ni v1.ci,.slice v1.qw v1.nw v1.cw,.int .i64 v1.lo,.int .i64 v1.hi,.int .i64 v1.op,.slice v1.qk v1.nk v1.ck,.int .i64 v2.kind,.string v2.attr,.slice v2.qi v2.ni v2.ci,.slice v2.qw v2.nw v2.cw,.int .i64 v2.lo,.int .i64 v2.hi,.int .i64 v2.op,.slice v2.qk v2.nk v2.ck]:=by simp [flatK,List.range_succ,rb]
theorem Xu:SmallL Ls1:=by
 intro l hl
 simp only [Ls1,List.mem_cons,List.not_mem_nil,or_false] at hl
 rcases hl with rfl | rfl | rfl | rfl <;> exact ⟨by decide,by decide⟩
theorem Xw:SmallL Ls2:=by
 intro l hl
 simp only [Ls2,List.mem_cons,List.not_mem_nil,or_false] at hl
 rcases hl with rfl
 exact ⟨by decide,by decide⟩
/-- The first conjunction of the fixed facts. -/
theorem Xj (v1 v2 v3 v4:Nv) (M:Nat) (W:World) (h:W.heap[M]? = some (.cells #[.int .i64 v1.kind,.string v1.attr,.slice v1.qi v1.ni v1.ci,.slice v1.qw v1.nw v1.cw,.int .i64 v1.lo,.int .i64 v1.hi,.bool false,.int .i64 v2.kind,.string v2.attr,.slice v2.qi v2.ni v2.ci,.slice v2.qw v2.nw v2.cw,.int .i64 v2.lo,.int .i64 v2.hi,.bool false,.int .i64 v3.kind,.string v3.attr,.slice v3.qi v3.ni v3.ci,.slice v3.qw v3.nw v3.cw,.int .i64 v3.lo,.int .i64 v3.hi,.bool false,.int .i64 v4.kind,.string v4.attr,.slice v4.qi v4.ni v4.ci,.slice v4.qw v4.nw v4.cw,.int .i64 v4.lo,.int .i64 v4.hi,.bool true] 64 (0,0))) (n1:NdIn W v1 T1) (n2:NdIn W v2 T2) (n3:NdIn W v3 T3) (n4:NdIn W v4 T4) :
    Calls Tryz.prog 24 #[.slice (some ⟨M,0,none⟩) 4 4] W fun e w'=>(∃ x:Cv,e=.returned (.tuple #[.agg #[.bool x.never,.slice x.qp x.np x.cp,.slice x.qn x.nn x.cn],.int .i64 0])/\CdNew W.heap.size w' x ⟨false,[P1,P2],[P3]⟩)/\Below W.heap.size W w':=by
  have hL:LitsOf W (some ⟨M,0,none⟩) 4 Ls1:=by
    refine ⟨[v1.lv false,v2.lv false,v3.lv false,v4.lv true],Z7 _ 4 h (Ya _ _ _ _ _ _ _ _) rfl (by unfold maxLen;omega),rfl,fun j u l hu hl=>?_⟩
    have hj:j < 4:=(List.getElem?_eq_some_iff.1 hu).1
    have hm:j=0 ∨ j=1 ∨ j=2 ∨ j=3:=by omega
    rcases hm with rfl | rfl | rfl | rfl <;> cases hu <;> cases hl
    · exact vw n1 false
    · exact vw n2 false
    · exact vw n3 false
    · exact vw n4 true
  have:=Cn (some ⟨M,0,none⟩) 4 Ls1 W hL Xu (Mc ok1) (by decide)
  rw [zck,show Cj Ls1=0 by unfold Cj;rw [ok1];rfl] at this
  exact this
theorem zbc (v1:Nv) (M:Nat) (W:World) (h:W.heap[M]? = some (.cells #[.int .i64 v1.kind,.string v1.attr,.slice v1.qi v1.ni v1.ci,.slice v1.qw v1.nw v1.cw,.int .i64 v1.lo,.int .i64 v1.hi,.bool false] 64 (0,0))) (n1:NdIn W v1 T5) :
  Calls Tryz.prog 24 #[.slice (some ⟨M,0,none⟩) 1 1] W fun e w'=>(∃ x:Cv,e=.returned (.tuple #[.agg #[.bool x.never,.slice x.qp x.np x.cp,.slice x.qn x.nn x.cn],.int .i64 0])/\x.never=true)/\Below W.heap.size W w':=by
 have hL:LitsOf W (some ⟨M,0,none⟩) 1 Ls2:=by
  refine ⟨[v1.lv false],Z7 _ 1 h (Zf _ _) rfl (by unfold maxLen;omega),rfl,fun j u l hu hl=>?_⟩
  have hj:j < 1:=(List.getElem?_eq_some_iff.1 hu).1
  obtain rfl:j=0:=by omega
  cases hu
  cases hl
  exact vw n1 false
 have:=Cn (some ⟨M,0,none⟩) 1 Ls2 W hL Xw (Mc ok2) (by decide)
 rw [zcv,show Cj Ls2=0 by unfold Cj;rw [ok2];rfl] at this
 exact this.mono fun e w' ⟨⟨x,h1,h2⟩,h3⟩=>⟨⟨x,h1,h2.1⟩,h3⟩
theorem zct (v1 v2:Nv) (M:Nat) (W:World) (h:W.heap[M]? = some (.cells #[.int .i64 v1.kind,.string v1.attr,.slice v1.qi v1.ni v1.ci,.slice v1.qw v1.nw v1.cw,.int .i64 v1.lo,.int .i64 v1.hi,.int .i64 v2.kind,.string v2.attr,.slice v2.qi v2.ni v2.ci,.slice v2.qw v2.nw v2.cw,.int .i64 v2.lo,.int .i64 v2.hi] 26 (0,0))) (n1:NdIn W v1 (.mk 3 nmA [] [] 1 5 1 [])) (n2:NdIn W v2 (.mk 3 nmA [] [] 5 9 1 [])) :
  Calls Tryz.prog 14 #[.slice (some ⟨M,0,none⟩) 2 2] W fun e w'=>(∃ r:Pv,e=.returned (.tuple #[.agg #[.int .i64 r.kind,.string r.attr,.slice r.qi r.ni r.ci,.slice r.qw r.nw r.cw,.int .i64 r.lo,.int .i64 r.hi],.bool true])/\PdIn w' r ⟨1,nmA,[5],[],0,0⟩)/\Below W.heap.size W w':=by
 have hL:PdsOf W (some ⟨M,0,none⟩) 2 [⟨3,nmA,[],[],1,5⟩,⟨3,nmA,[],[],5,9⟩]:=by
  refine ⟨[v1.pv,v2.pv],Z7 _ 2 h (X5 _ _) rfl (by unfold maxLen;omega),rfl,fun j u l hu hl=>?_⟩
  have hj:j < 2:=(List.getElem?_eq_some_iff.1 hu).1
  have hm:j=0 ∨ j=1:=by omega
  rcases hm with rfl | rfl <;> cases hu <;> cases hl
  ·exact Fw n1
  ·exact Fw n2
 have:=Dc (some ⟨M,0,none⟩) 2 _ W hL (fun p hp=>by
  simp only [List.mem_cons,List.not_mem_nil,or_false] at hp
  rcases hp with rfl | rfl <;> exact ⟨by decide,by decide⟩) (by decide)
 rw [zcz] at this
 exact this.mono fun e w' ⟨⟨r,h1,h2⟩,h3⟩=>⟨⟨r,h1,h2.1⟩,h3⟩
theorem zcw (v1:Nv) (W:World) (n1:NdIn W v1 (.mk 1 nmA [2,1,2] [] 0 0 1 [])) :
  Calls Tryz.prog 16 #[.agg #[.int .i64 v1.kind,.string v1.attr,.slice v1.qi v1.ni v1.ci,.slice v1.qw v1.nw v1.cw,.int .i64 v1.lo,.int .i64 v1.hi]] W fun e w'=>(∃ r:Pv,e=.returned (.tuple #[.agg #[.int .i64 r.kind,.string r.attr,.slice r.qi r.ni r.ci,.slice r.qw r.nw r.cw,.int .i64 r.lo,.int .i64 r.hi],.bool true])/\PdIn w' r ⟨1,nmA,[1,2],[],0,0⟩)/\Below W.heap.size W w':=by
 have:=tu v1.pv ⟨1,nmA,[2,1,2],[],0,0⟩ W (Fw n1) ⟨by decide,by decide⟩
 rw [zc2] at this
 exact this.mono fun e w' ⟨⟨r,h1,h2⟩,h3⟩=>⟨⟨r,h1,h2.1⟩,h3⟩
theorem cOr (v1 v2:Nv) (M:Nat) (W:World) (h:W.heap[M]? = some (.cells #[.int .i64 v1.kind,.string v1.attr,.slice v1.qi v1.ni v1.ci,.slice v1.qw v1.nw v1.cw,.int .i64 v1.lo,.int .i64 v1.hi,.int .i64 v1.op,.slice v1.qk v1.nk v1.ck,.int .i64 v2.kind,.string v2.attr,.slice v2.qi v2.ni v2.ci,.slice v2.qw v2.nw v2.cw,.int .i64 v2.lo,.int .i64 v2.hi,.int .i64 v2.op,.slice v2.qk v2.nk v2.ck] 56 (0,0))) (n1:NdIn W v1 T1) (n2:NdIn W v2 T2) :
  Calls Tryz.prog 47 #[.slice (some ⟨M,0,none⟩) 2 2] W fun e w'=>zbp w' (At 4 [T1,T2]) e/\Below W.heap.size W w':=by
 have hL:NdsOf W (some ⟨M,0,none⟩) 2 [T1,T2]:=by
  refine ⟨[v1,v2],Z7 _ 2 h (Zk _ _) rfl (by unfold maxLen;omega),rfl,fun j u l hu hl=>?_⟩
  have hj:j < 2:=(List.getElem?_eq_some_iff.1 hu).1
  have hm:j=0 ∨ j=1:=by omega
  rcases hm with rfl | rfl <;> cases hu <;> cases hl
  ·exact n1
  ·exact n2
 exact (Z9 (some ⟨M,0,none⟩) 2 [T1,T2] W hL (by decide)).mono fun e w' ⟨h1,h2⟩=>⟨h1.nv,h2⟩
theorem zdk (v:Nv) (W:World) (n:NdIn W v (At 4 [T1,T2])) :
  Calls Tryz.prog 33 #[.agg #[.int .i64 v.kind,.string v.attr,.slice v.qi v.ni v.ci,.slice v.qw v.nw v.cw,.int .i64 v.lo,.int .i64 v.hi,.int .i64 v.op,.slice v.qk v.nk v.ck],.int .i64 2] W fun e w'=>(∃ q c,e=.returned (.tuple #[.slice q 2 c,.int .i64 0]))/\Below W.heap.size W w':=by
 have:=X3 (At 4 [T1,T2]) 2 v W n (by decide)
 rw [zc5.1,show (Vm (At 4 [T1,T2]) 2).length=2 by unfold Vm;rw [List.length_map];exact zc5.2] at this
 exact this.mono fun e w' ⟨⟨q,c,h1,_⟩,h3⟩=>⟨⟨q,c,h1⟩,h3⟩
/-- A list of predicates stays, whatever is written into a block ahead of it. -/
theorem E5 {B g:Nat} {w W:World} {q:Option Addr} {c n:Nat} {ls:List Pd} (h:GrowD B w q c n ls) (hg:g < B) (hs:w.heap.size<=W.heap.size) (hW:∀ b,b < w.heap.size->b ≠ g->W.heap[b]? = w.heap[b]?):PdsOf W q c ls:=by
  obtain ⟨h1,us,h2,h3,h4⟩:=h
  refine ⟨us, ?_,by omega,fun j u p hj hp=>(h4 W hs (fun b o hb hlt hne=>World.cell?_of_block (a:=⟨b,o,none⟩) (hW b hlt (by omega))) j u p hj hp).1⟩
  have:=h3.ls
  refine ⟨this.1,this.2.1,this.2.2.1,fun h0=>?_⟩
  obtain ⟨b,off,e1,e2,e3⟩:=this.2.2.2 h0
  refine ⟨b,off,e1,Nat.lt_of_lt_of_le e2 hs,fun j u hj=>(World.cell?_of_block (a:=⟨b,off + j,none⟩) (hW b e2 ?_)).trans (e3 j u hj)⟩
  have:=h3.from _ e1
  simp only at this
  omega
/-- A conjunction that no write into block g reaches. -/
def Pq (g:Nat) (w:World) (x:Cv) (d:Cd):Prop:=∀ W:World,w.heap.size<=W.heap.size->(∀ b,b < w.heap.size->b ≠ g->W.heap[b]? = w.heap[b]?)->CdIn W x d
theorem CdNew.off {B g:Nat} {w:World} {x:Cv} {d:Cd} (h:CdNew B w x d) (hg:g < B):Pq g w x d:=fun _ hs hW=>⟨h.1,h.2.1.1.symm,h.2.2.1.symm,E5 h.2.1 hg hs hW,E5 h.2.2 hg hs hW⟩
theorem CdNew.off2 {B:Nat} {w:World} {x:Cv} {d:Cd} (h:CdNew B w x d) (o:Obj):Pq w.heap.size (w.alloc o) x d:=fun W hs hW=>by
 have hc:∀ b,b < w.heap.size->W.heap[b]? = w.heap[b]?:=fun b hb=>(hW b (by rw [jl];omega) (by omega)).trans (Below.heap_alloc _ _ b hb)
 rw [jl] at hs
 have pk:∀ {q:Option Addr} {c n:Nat} {ls:List Pd},GrowD B w q c n ls->PdsOf W q c ls:=fun {q c n ls} hG=>by
  obtain ⟨us,a1,a2,a3⟩:=hG.preds
  have sk:∀ {α:Type} [Inhabited α] {enc:α->List Value} {k:Nat} {q:Option Addr} {c:Nat} {l:List α},SlOf enc k w q c l->SlOf enc k W q c l:=fun hS=>⟨hS.1,hS.2.1,hS.2.2.1,fun h0=>by
   obtain ⟨b,off,e1,e2,e3⟩:=hS.2.2.2 h0
   exact ⟨b,off,e1,by omega,fun j u hj=>(World.cell?_of_block (a:=⟨b,off + j,none⟩) (hc b e2)).trans (e3 j u hj)⟩⟩
  exact ⟨us,sk a1,a2,fun j u p hj hp=>by
   obtain ⟨p1,p2,p3,p4,p5,p6,p7,p8⟩:=a3 j u p hj hp
   exact ⟨p1,p2,p3,p4,p5,p6,sk p7,sk p8⟩⟩
 exact ⟨h.1,h.2.1.1.symm,h.2.2.1.symm,pk h.2.1,pk h.2.2⟩
end Go.Proofs.YtimklglliffpcaaGreat

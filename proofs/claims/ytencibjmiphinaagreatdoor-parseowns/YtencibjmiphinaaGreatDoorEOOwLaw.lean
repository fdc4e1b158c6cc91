/- The law ParseOwns returns true, whatever the attributes and the text. -/
import Derived.Test.YtencibjmiphinaaGreatDoorEOPaEx2
import Derived.Test.YtencibjmiphinaaGreatDoorEZaw
import Derived.Test.YtencibjmiphinaaGreatDoorEOOvN
import Derived.Test.YtencibjmiphinaaGreatDoorEOTwo
import Derived.Test.YtencibjmiphinaaGreatDoorEOSameNode
import Derived.Test.YtencibjmiphinaaGreatDoorEScNew
import Derived.Deep.Cut
import Derived.Deep.CutRange
namespace Go.Proofs.YtencibjmiphinaaGreatDoor
open Go.RowKit Go.Sort
def zNv:Nv:=⟨0,⟨#[]⟩,none,0,0,none,0,0,0,0,0,none,0,0⟩
theorem zOwn (w:World):NdOwn w zNv zeroT []:=NdOwn.mk (kind:=0) (attr:=⟨#[]⟩) (lo:=0) (hi:=0) (op:=0) (ints:=[]) (words:=[]) (kids:=[]) (vs:=[]) (Ss:=[]) (OwnK.nil _ _) (OwnK.nil _ _) (OwnK.nil _ _) rfl rfl (fun j v x S h=>by simp at h) (by simp [bk])
theorem G_on {w w':World} (h:Lx.G w) (hb:Below w.heap.size w w'):Lx.G w':=Lx.G_below h hb
def prT:Rs Nd->Nd
 | .bad _=>zeroT
 | .ok y _=>y
def prP:Rs Nd->Int
 | .bad q=>q
 | .ok _ _=>0
def prC:Rs Nd->Int
 | .bad _=>10
 | .ok _ _=>0
def exC:Rs Nd->Int
 | .bad c=>c
 | .ok _ _=>0
theorem PrR.own {w w':World} {x:Rs Nd} {e:Ending} (h:PrR w x e w'):∃ v S,e=.returned (.tuple #[v.val,.int .i64 (prP x),.int .i64 (prC x)])/\NdOwn w' v (prT x) S/\(∀ b ∈ S,w.heap.size<=b)/\Below w.heap.size w w':=by
 cases x with
 | bad q=>exact ⟨zNv,[],h.1,zOwn _,by simp,h.2⟩
 | ok y r =>
  obtain ⟨⟨v,he,S,hv,hS⟩,hb⟩:=h
  exact ⟨v,S,he,hv,hS,hb⟩
theorem ExR.own {w w':World} {x:Rs Nd} {e:Ending} (h:ExR w x e w'):∃ v S,e=.returned (.tuple #[v.val,.int .i64 (exC x)])/\NdOwn w' v (prT x) S/\(∀ b ∈ S,w.heap.size<=b)/\Below w.heap.size w w':=by
 cases x with
 | bad q=>exact ⟨zNv,[],h.1,zOwn _,by simp,h.2⟩
 | ok y r =>
  obtain ⟨⟨v,he,S,hv,hS⟩,hb⟩:=h
  exact ⟨v,S,he,hv,hS,hb⟩
theorem zWt:wtN zeroT<=1000000000:=by unfold zeroT;simp [wtN,wtL,wordsWt,ByteArray.size]
theorem prT_wt (s:ByteArray):wtN (prT (parL s))<=1000000000:=by
 cases h:parL s with
 | bad q=>exact zWt
 | ok y r=>exact parL_wt h
theorem exT_wt (ats:List (ByteArray × Int)) (d:Int) (s:ByteArray):wtN (prT (exL ats d s))<=1000000000:=by
 unfold exL
 cases h:parL s with
 | bad q=>exact zWt
 | ok y r =>
  simp only
  split
  ·exact zWt
  ·split
   ·exact parL_wt h
   ·exact zWt
theorem NdOwn.on {w w':World} {v:Nv} {t:Nd} {S:List Nat} (h:NdOwn w v t S) (hb:Below w.heap.size w w'):NdOwn w' v t S:=h.blk fun b hm=>hb.block b (h.lt b hm)
theorem Aw.up {S:List Nat} {B:Nat} {w w':World} (h:Aw S w w') (hS:∀ b ∈ S,b < B):SameUp B w w':=⟨h.size,fun b h1 h2=>h.block b h2 (fun hb=>by have:=hS b hb;omega)⟩
theorem Aw.bel {S:List Nat} {B:Nat} {w w':World} (h:Aw S w w') (hS:∀ b ∈ S,B<=b) (hB:B<=w.heap.size):Below B w w':=⟨h.os,h.tape,h.output,h.size,fun b hb=>h.block b (by omega) (fun hm=>by have:=hS b hm;omega)⟩
set_option maxHeartbeats 4000000 in
theorem owns_big (p:Option Addr) (cap:Nat) (l:List (ByteArray × Int)) (s:ByteArray) (w:World) (hG:Lx.G w) (hl:l.length * 24<=140737488355328) (hp:p=none->l.length=0/\cap=0) (hA:Sc.AtsOf w p l) (hq:64 < l.length) :
  Calls Tryz.prog 8 #[.slice p l.length cap,.string s] w fun e w'=>e=.returned (.bool true)/\Below w.heap.size w w':=by
 have hfx:=fixed_any5 w hG
 have hN:∀ W,Below w.heap.size w W->Calls Tryz.prog 13 #[.slice p l.length cap] W fun e w'=>e=.returned (.tuple #[.pointer none,.int .i64 2])/\Below W.heap.size W w':=fun W hW=>by
  refine (Sc.new_any p cap l W hl hp (hA.below hW)).mono ?_
  rintro e w' ⟨hr,hb⟩
  rcases hr with ⟨_,rfl⟩ | ⟨h1,_⟩ | ⟨h1,_⟩
  ·exact ⟨rfl,hb⟩
  ·omega
  ·omega
 clear hA hG
 go_enter Tryz.func8,Tryz.ntmps8
 go_wp2_with (first
  | (go_at_call 9;refine hfx.mono ?_;rintro e w1 ⟨rfl,g1⟩;have B1:=hide g1;clear g1)
  | (go_at_call 13;refine (hN _ (uh B1)).mono ?_;rintro e w2 ⟨rfl,g2⟩;have B2:=hide (below_sub (uh B1) g2);clear g2))
 go_ret
 exact ⟨rfl,uh B2⟩
set_option maxHeartbeats 4000000 in
theorem owns_bad (p:Option Addr) (cap:Nat) (l:List (ByteArray × Int)) (s:ByteArray) (w:World) (hG:Lx.G w) (hl:l.length * 24<=140737488355328) (hp:p=none->l.length=0/\cap=0) (hA:Sc.AtsOf w p l) (hq:l.length<=64) (hn:¬ (l.all Sc.atOk=true/\(l.map Sc.nmA).Nodup)) :
  Calls Tryz.prog 8 #[.slice p l.length cap,.string s] w fun e w'=>e=.returned (.bool true)/\Below w.heap.size w w':=by
 have hfx:=fixed_any5 w hG
 have hN:∀ W,Below w.heap.size w W->Calls Tryz.prog 13 #[.slice p l.length cap] W fun e w'=>e=.returned (.tuple #[.pointer none,.int .i64 1])/\Below W.heap.size W w':=fun W hW=>by
  refine (Sc.new_any p cap l W hl hp (hA.below hW)).mono ?_
  rintro e w' ⟨hr,hb⟩
  rcases hr with ⟨h1,_⟩ | ⟨_,_,rfl⟩ | ⟨_,h1,h2,_⟩
  ·omega
  ·exact ⟨rfl,hb⟩
  ·exact absurd ⟨h1,h2⟩ hn
 clear hA hG
 go_enter Tryz.func8,Tryz.ntmps8
 go_wp2_with (first
  | (go_at_call 9;refine hfx.mono ?_;rintro e w1 ⟨rfl,g1⟩;have B1:=hide g1;clear g1)
  | (go_at_call 13;refine (hN _ (uh B1)).mono ?_;rintro e w2 ⟨rfl,g2⟩;have B2:=hide (below_sub (uh B1) g2);clear g2))
 go_ret
 exact ⟨rfl,uh B2⟩
set_option maxRecDepth 100000 in
set_option maxHeartbeats 8000000 in
theorem owns_good (p:Option Addr) (cap:Nat) (l:List (ByteArray × Int)) (s:ByteArray) (w:World) (hG:Lx.G w) (hl:l.length * 24<=140737488355328) (hp:p=none->l.length=0/\cap=0) (hA:Sc.AtsOf w p l) (hq:l.length<=64) (h1:l.all Sc.atOk=true) (h2:(l.map Sc.nmA).Nodup) :
    Calls Tryz.prog 8 #[.slice p l.length cap,.string s] w fun e w'=>e=.returned (.bool true)/\Below w.heap.size w w':=by
  have mixed:Tryz.prog.follows .mixedOrders=true:=by kernel_rfl
  have hfx:=fixed_any5 w hG
  have hN:∀ W,Below w.heap.size w W->Calls Tryz.prog 13 #[.slice p l.length cap] W fun e w'=>(∃ b L,e=.returned (.tuple #[.pointer (some ⟨b,0,none⟩),.int .i64 0])/\L.Perm l/\Sc.SchAt w' b L)/\Below W.heap.size W w':=fun W hW=>by
    refine (Sc.new_any p cap l W hl hp (hA.below hW)).mono ?_
    rintro e w' ⟨hr,hb⟩
    rcases hr with ⟨h3,_⟩ | ⟨_,h3,_⟩ | ⟨_,_,_,b,L,rfl,hp',hs',hsc⟩
    · omega
    · exact absurd ⟨h1,h2⟩ h3
    · exact ⟨⟨b,L,rfl,hp',hsc.at⟩,hb⟩
  obtain ⟨E,hE⟩:∃ E,parL s=E:=⟨_,rfl⟩
  have HWT:=hide (show wtN (prT E)<=1000000000 by rw [<- hE];exact prT_wt s)
  obtain ⟨pp,hpp⟩:∃ x,prP E=x:=⟨_,rfl⟩
  obtain ⟨pc,hpc⟩:∃ x,prC E=x:=⟨_,rfl⟩
  obtain ⟨tb,htb⟩:∃ x,prT E=x:=⟨_,rfl⟩
  rw [htb] at HWT
  have HE:=hide hE
  have HP:=hide hpp
  have HC:=hide hpc
  have HT:=hide htb
  have HG:=hide hG
  have HQ:=hide hq
  have FL1:=hide trivial
  have FL2:=hide trivial
  have FL3:=hide trivial
  have FL4:=hide trivial
  clear hG hA hp hl h1 h2 hq hE hpp hpc htb
  go_enter Tryz.func8,Tryz.ntmps8
  go_wp2_with (first
    | (go_at_call 9;refine hfx.mono ?_;rintro e w1 ⟨rfl,g1⟩;have B1:=hide g1;clear g1)
    | (go_at_call 13;refine (hN _ (uh B1)).mono ?_;rintro e w2 ⟨⟨bp,L,rfl,hpl,hsc⟩,g2⟩;have B2:=hide (below_sub (uh B1) g2);have SC0:=hide hsc;have HM:=hide (show L.length<=140737488355328 by have:=uh HQ;rw [hpl.length_eq];omega);clear hpl hsc g2)
    | (go_at_call 10;clear FL1;refine (parse_any s _ (G_on (uh HG) (uh B2))).mono ?_;intro e w3 h;rw [uh HE] at h;obtain ⟨va,Sa,rfl,ho,hge,hb⟩:=h.own;rw [uh HP,uh HC];rw [uh HT] at ho;obtain ⟨Y3,HY3⟩:∃ Y3,w3.alloc (.cells #[.int .i64 va.kind,.string va.attr,.slice va.qi va.ni va.ci,.slice va.qw va.nw va.cw,.int .i64 va.lo,.int .i64 va.hi,.int .i64 va.op,.slice va.qk va.nk va.ck] 29)=Y3:=⟨_,rfl⟩;have yY3:Y3.heap[w3.heap.size]? = some (.cells #[.int .i64 va.kind,.string va.attr,.slice va.qi va.ni va.ci,.slice va.qw va.nw va.cw,.int .i64 va.lo,.int .i64 va.hi,.int .i64 va.op,.slice va.qk va.nk va.ck] 29):=(by rw [<- HY3];exact box_nw _ _);have bY3:Below w3.heap.size w3 Y3:=(by rw [<- HY3];exact (Below.refl _ _).alloc (Nat.le_refl _) _);have zY3:Y3.heap.size=w3.heap.size + 1:=(by rw [<- HY3];simp);have Ga:=hide hge;have Ua:=hide ho.lt;have Za:=hide zY3;have Ma:=hide hb.size;have hst:=below_sub hb bY3;have B3:=hide (below_sub (uh B2) hst);have SC1:=hide ((uh SC0).below hst);have Oa0:=hide (ho.on bY3);have Xa0:=hide yY3;clear h ho hge hb hst yY3 bY3 zY3;unfold Nv.val)
    | (go_at_call 10;clear FL2;refine (parse_any s _ (G_on (uh HG) (uh B3))).mono ?_;intro e w4 h;rw [uh HE] at h;obtain ⟨vb,Sb,rfl,ho,hge,hb⟩:=h.own;rw [uh HP,uh HC];rw [uh HT] at ho;obtain ⟨Y4,HY4⟩:∃ Y4,w4.alloc (.cells #[.int .i64 vb.kind,.string vb.attr,.slice vb.qi vb.ni vb.ci,.slice vb.qw vb.nw vb.cw,.int .i64 vb.lo,.int .i64 vb.hi,.int .i64 vb.op,.slice vb.qk vb.nk vb.ck] 29)=Y4:=⟨_,rfl⟩;have yY4:Y4.heap[w4.heap.size]? = some (.cells #[.int .i64 vb.kind,.string vb.attr,.slice vb.qi vb.ni vb.ci,.slice vb.qw vb.nw vb.cw,.int .i64 vb.lo,.int .i64 vb.hi,.int .i64 vb.op,.slice vb.qk vb.nk vb.ck] 29):=(by rw [<- HY4];exact box_nw _ _);have bY4:Below w4.heap.size w4 Y4:=(by rw [<- HY4];exact (Below.refl _ _).alloc (Nat.le_refl _) _);have zY4:Y4.heap.size=w4.heap.size + 1:=(by rw [<- HY4];simp);have Gb:=hide hge;have Ub:=hide ho.lt;have Zb:=hide zY4;have Mb:=hide hb.size;have hst:=below_sub hb bY4;have B4:=hide (below_sub (uh B3) hst);have SC2:=hide ((uh SC1).below hst);have Oa1:=hide ((uh Oa0).on hst);have Xa1:=hide (bl_on (uh Xa0) hst);have Ob1:=hide (ho.on bY4);have Xb1:=hide yY4;clear h ho hge hb hst yY4 bY4 zY4;unfold Nv.val)
    | (go_at_call 15;clear FL3;refine (expr_any bp L (uh HM) 32 s _ (G_on (uh HG) (uh B4)) (uh SC2)).mono ?_;intro e w5 h;obtain ⟨F,hF⟩:∃ F,exL L 32 s=F:=⟨_,rfl⟩;have HWF:=hide (show wtN (prT F)<=1000000000 by rw [<- hF];exact exT_wt L 32 s);rw [hF] at h;have HF:=hide hF;clear hF;obtain ⟨vc,Sc,rfl,ho,hge,hb⟩:=h.own;obtain ⟨cc,hcc⟩:∃ cc,exC F=cc:=⟨_,rfl⟩;rw [hcc];have HCC:=hide hcc;clear hcc;obtain ⟨Y5,HY5⟩:∃ Y5,w5.alloc (.cells #[.int .i64 vc.kind,.string vc.attr,.slice vc.qi vc.ni vc.ci,.slice vc.qw vc.nw vc.cw,.int .i64 vc.lo,.int .i64 vc.hi,.int .i64 vc.op,.slice vc.qk vc.nk vc.ck] 29)=Y5:=⟨_,rfl⟩;have yY5:Y5.heap[w5.heap.size]? = some (.cells #[.int .i64 vc.kind,.string vc.attr,.slice vc.qi vc.ni vc.ci,.slice vc.qw vc.nw vc.cw,.int .i64 vc.lo,.int .i64 vc.hi,.int .i64 vc.op,.slice vc.qk vc.nk vc.ck] 29):=(by rw [<- HY5];exact box_nw _ _);have bY5:Below w5.heap.size w5 Y5:=(by rw [<- HY5];exact (Below.refl _ _).alloc (Nat.le_refl _) _);have zY5:Y5.heap.size=w5.heap.size + 1:=(by rw [<- HY5];simp);have Gc:=hide hge;have Uc:=hide ho.lt;have Zc:=hide zY5;have Mc:=hide hb.size;have hst:=below_sub hb bY5;have B5:=hide (below_sub (uh B4) hst);have SC3:=hide ((uh SC2).below hst);have Oa2:=hide ((uh Oa1).on hst);have Xa2:=hide (bl_on (uh Xa1) hst);have Ob2:=hide ((uh Ob1).on hst);have Xb2:=hide (bl_on (uh Xb1) hst);have Oc2:=hide (ho.on bY5);have Xc2:=hide yY5;clear h ho hge hb hst yY5 bY5 zY5;unfold Nv.val)
    | (go_at_call 15;clear FL4;refine (expr_any bp L (uh HM) 32 s _ (G_on (uh HG) (uh B5)) (uh SC3)).mono ?_;intro e w6 h;rw [uh HF] at h;obtain ⟨vd,Sd,rfl,ho,hge,hb⟩:=h.own;rw [uh HCC];obtain ⟨Y6,HY6⟩:∃ Y6,w6.alloc (.cells #[.int .i64 vd.kind,.string vd.attr,.slice vd.qi vd.ni vd.ci,.slice vd.qw vd.nw vd.cw,.int .i64 vd.lo,.int .i64 vd.hi,.int .i64 vd.op,.slice vd.qk vd.nk vd.ck] 29)=Y6:=⟨_,rfl⟩;have yY6:Y6.heap[w6.heap.size]? = some (.cells #[.int .i64 vd.kind,.string vd.attr,.slice vd.qi vd.ni vd.ci,.slice vd.qw vd.nw vd.cw,.int .i64 vd.lo,.int .i64 vd.hi,.int .i64 vd.op,.slice vd.qk vd.nk vd.ck] 29):=(by rw [<- HY6];exact box_nw _ _);have bY6:Below w6.heap.size w6 Y6:=(by rw [<- HY6];exact (Below.refl _ _).alloc (Nat.le_refl _) _);have zY6:Y6.heap.size=w6.heap.size + 1:=(by rw [<- HY6];simp);have Gd:=hide hge;have Ud:=hide ho.lt;have Zd:=hide zY6;have Md:=hide hb.size;have hst:=below_sub hb bY6;have B6:=hide (below_sub (uh B5) hst);have SC4:=hide ((uh SC3).below hst);have Oa3:=hide ((uh Oa2).on hst);have Xa3:=hide (bl_on (uh Xa2) hst);have Ob3:=hide ((uh Ob2).on hst);have Xb3:=hide (bl_on (uh Xb2) hst);have Oc3:=hide ((uh Oc2).on hst);have Xc3:=hide (bl_on (uh Xc2) hst);have Od3:=hide (ho.on bY6);have Xd3:=hide yY6;clear h ho hge hb hst yY6 bY6 zY6;unfold Nv.val))
  have ia:=(uh Ua);have ib:=(uh Ub);have ic:=(uh Uc);have id_:=(uh Ud)
  have ga:=(uh Ga);have gb:=(uh Gb);have gc:=(uh Gc);have gd:=(uh Gd)
  have za:=(uh Za);have zb:=(uh Zb);have zc:=(uh Zc);have zd:=(uh Zd)
  have ma:=(uh Ma);have mb:=(uh Mb);have mc:=(uh Mc);have md:=(uh Md)
  have hIb:=(uh Ob3).toIn
  have hId:=(uh Od3).toIn
  have NUM:=hide (And.intro ia (And.intro ib (And.intro ic (And.intro id_ (And.intro ga (And.intro gb (And.intro gc (And.intro gd (And.intro za (And.intro zb (And.intro zc (And.intro zd (And.intro ma (And.intro mb (And.intro mc md)))))))))))))))
  clear ia ib ic id_ ga gb gc gd za zb zc zd ma mb mc md
  refine reg10 Y6 w4.heap.size w6.heap.size vb vd tb (prT F) hIb hId (uh HWT) (uh HWF) (uh Xb3) (uh Xd3) _ _ _ _ _ _ _ _ _ _ _ _ _ _ _ _ _ _ _ _ _ _ _ _ _ _ _ _ _ _ _ _ _ _ _ _ _ _ _ _ _ _ _ _ _ _ _ _ _ _ _ _ _ _ _ _ _ _ _ _ _ _ _ _ _ _ _ _ _ _ _ _ _ _ (by intro c a o v w h;cases o <;> exact h) ?_
  intro W x y M N t58 t59 t60 t61 h2
  have H2:=hide h2
  have XA:=hide (bl_on (uh Xa3) h2.below)
  have XB:=hide (bl_on (uh Xb3) h2.below)
  have XC:=hide (bl_on (uh Xc3) h2.below)
  have XD:=hide (bl_on (uh Xd3) h2.below)
  have OA:=hide ((uh Oa3).on h2.below)
  have OB:=hide ((uh Ob3).on h2.below)
  have OC:=hide ((uh Oc3).on h2.below)
  have OD:=hide ((uh Od3).on h2.below)
  have SZ:=hide h2.below.size
  clear hIb hId h2
  obtain ⟨p0,p1,p2,p3,p4,p5,p6,p7⟩:=of8' (uh XA)
  obtain ⟨q0,q1,q2,q3,q4,q5,q6,q7⟩:=of8' (uh XC)
  have dAC:Hid (∀ b ∈ Sc,b ∉ Sa):=hide (by obtain ⟨ia,ib,ic,id_,ga,gb,gc,gd,za,zb,zc,zd,ma,mb,mc,md⟩:=uh NUM;intro b h1 h3;have:=ia b h3;have:=gc b h1;omega)
  have nA:Hid (w4.heap.size ∉ Sa/\w5.heap.size ∉ Sa/\w6.heap.size ∉ Sa/\M ∉ Sa/\N ∉ Sa/\(∀ b ∈ Sb,b ∉ Sa)/\(∀ b ∈ Sd,b ∉ Sa)/\∀ b ∈ Sa,b < Y6.heap.size):=hide (by
    obtain ⟨ia,ib,ic,id_,ga,gb,gc,gd,za,zb,zc,zd,ma,mb,mc,md⟩:=uh NUM
    have e1:=(uh H2).gx;have e2:=(uh H2).gy
    refine ⟨fun h=>?_,fun h=>?_,fun h=>?_,fun h=>?_,fun h=>?_,fun b h1 h=>?_,fun b h1 h=>?_,fun b h=>?_⟩
    · have:=ia _ h;omega
    · have:=ia _ h;omega
    · have:=ia _ h;omega
    · have:=ia _ h;omega
    · have:=ia _ h;omega
    · have:=ia _ h;have:=gb _ h1;omega
    · have:=ia _ h;have:=gd _ h1;omega
    · have:=ia _ h;omega)
  have nC:Hid (w4.heap.size ∉ Sc/\w6.heap.size ∉ Sc/\M ∉ Sc/\N ∉ Sc/\(∀ b ∈ Sb,b ∉ Sc)/\(∀ b ∈ Sd,b ∉ Sc)/\∀ b ∈ Sc,b < Y6.heap.size):=hide (by
    obtain ⟨ia,ib,ic,id_,ga,gb,gc,gd,za,zb,zc,zd,ma,mb,mc,md⟩:=uh NUM
    have e1:=(uh H2).gx;have e2:=(uh H2).gy
    refine ⟨fun h=>?_,fun h=>?_,fun h=>?_,fun h=>?_,fun b h1 h=>?_,fun b h1 h=>?_,fun b h=>?_⟩
    · have:=gc _ h;omega
    · have:=ic _ h;omega
    · have:=ic _ h;omega
    · have:=ic _ h;omega
    · have:=ib _ h1;have:=gc _ h;omega
    · have:=gd _ h1;have:=ic _ h;omega
    · have:=ic _ h;omega)
  have FL7:=hide trivial
  have FL8:=hide trivial
  have FL9:=hide trivial
  have FL10:=hide trivial
  have cA:=overN_any tb va Sa W (uh OA) (uh HWT)
  unfold Nv.val at cA
  have CA:=hide cA
  clear cA
  go_wp2_with (first
    | (go_at_call 24;clear FL7;refine (uh CA).mono ?_;rintro e w9 ⟨rfl,h9⟩;have A9:=hide h9;clear h9 q0 q1 q2 q3 q4 q5 q6 q7;obtain ⟨q0,q1,q2,q3,q4,q5,q6,q7⟩:=of8' (aw_blk (uh A9) (uh XC) (uh nA).2.1);have cC:=overN_any (prT F) vc Sc w9 ((uh OC).aw (uh A9) (uh dAC)) (uh HWF);unfold Nv.val at cC;have CC:=hide cC;clear cC)
    | (go_at_call 24;clear FL8;refine (uh CC).mono ?_;rintro e w10 ⟨rfl,h10⟩;have A10:=hide h10;clear h10 p0 p1 p2 p3 p4 p5 p6 p7 q0 q1 q2 q3 q4 q5 q6 q7;
        obtain ⟨p0,p1,p2,p3,p4,p5,p6,p7⟩:=of8' (aw_blk (uh A10) (aw_blk (uh A9) (uh XB) (uh nA).1) (uh nC).1);obtain ⟨q0,q1,q2,q3,q4,q5,q6,q7⟩:=of8' (aw_blk (uh A10) (aw_blk (uh A9) (uh H2).hx (uh nA).2.2.2.1) (uh nC).2.2.1);
        obtain ⟨r0,r1,r2,r3,r4,r5,r6,r7⟩:=of8' (aw_blk (uh A10) (aw_blk (uh A9) (uh XD) (uh nA).2.2.1) (uh nC).2.1);obtain ⟨s0,s1,s2,s3,s4,s5,s6,s7⟩:=of8' (aw_blk (uh A10) (aw_blk (uh A9) (uh H2).hy (uh nA).2.2.2.2.1) (uh nC).2.2.2.1);
        have iB:=hide (((uh OB).aw (uh A9) (uh nA).2.2.2.2.2.1).aw (uh A10) (uh nC).2.2.2.2.1).toIn;have iD:=hide (((uh OD).aw (uh A9) (uh nA).2.2.2.2.2.2.1).aw (uh A10) (uh nC).2.2.2.2.2.1).toIn;
        have iX:=hide (((uh H2).sx.up ((uh A9).up (uh nA).2.2.2.2.2.2.2)).up ((uh A10).up (uh nC).2.2.2.2.2.2)).toIn;have iY:=hide (((uh H2).sy.up ((uh A9).up (uh nA).2.2.2.2.2.2.2)).up ((uh A10).up (uh nC).2.2.2.2.2.2)).toIn)
    | (go_at_call 12;clear FL9;have hsm:=sameM_all tb tb vb x w10 (uh iB) (uh iX) (OkN.of_wt tb (uh HWT));rw [sameT_yes rfl] at hsm;unfold Nv.val at hsm;refine hsm.mono ?_;rintro e w11 ⟨rfl,h11⟩;have B11:=hide h11;clear h11 hsm r0 r1 r2 r3 r4 r5 r6 r7 s0 s1 s2 s3 s4 s5 s6 s7;obtain ⟨r0,r1,r2,r3,r4,r5,r6,r7⟩:=of8' (bl_on (aw_blk (uh A10) (aw_blk (uh A9) (uh XD) (uh nA).2.2.1) (uh nC).2.1) (uh B11));obtain ⟨s0,s1,s2,s3,s4,s5,s6,s7⟩:=of8' (bl_on (aw_blk (uh A10) (aw_blk (uh A9) (uh H2).hy (uh nA).2.2.2.2.1) (uh nC).2.2.2.1) (uh B11)))
    | (go_at_call 12;clear FL10;have hsm:=sameM_all (prT F) (prT F) vd y w11 ((uh iD).keep (uh B11)) ((uh iY).keep (uh B11)) (OkN.of_wt _ (uh HWF));rw [sameT_yes rfl] at hsm;unfold Nv.val at hsm;refine hsm.mono ?_;rintro e w12 ⟨rfl,h12⟩;have B12:=hide h12;clear h12 hsm))
  go_ret
  have hb0:=below_sub (uh B6) (uh H2).below
  obtain ⟨ia,ib,ic,id_,ga,gb,gc,gd,za,zb,zc,zd,ma,mb,mc,md⟩:=uh NUM
  have b2:=(uh B2).size
  have h9:=(uh A9).bel (B:=w.heap.size) (fun b hb=>by have:=ga b hb;omega) hb0.size
  have h10:=(uh A10).bel (B:=w.heap.size) (fun b hb=>by have:=gc b hb;omega) (Nat.le_trans hb0.size h9.size)
  exact ⟨rfl,((hb0.trans h9).trans h10).trans (((uh B11).trans ((uh B12).mono (uh B11).size)).mono (Nat.le_trans hb0.size (Nat.le_trans h9.size h10.size)))⟩
end Go.Proofs.YtencibjmiphinaaGreatDoor

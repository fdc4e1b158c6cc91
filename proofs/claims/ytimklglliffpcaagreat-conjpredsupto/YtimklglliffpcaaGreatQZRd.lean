/- trommelmem.Pred and a list of such copies: spare room behind each list. -/
import Derived.Test.YtimklglliffpcaaGreatQZag
namespace Go.Proofs.YtimklglliffpcaaGreat
open Go.RowKit Go.Sort Go.Shelf
set_option maxHeartbeats 4000000 in
set_option maxRecDepth 100000 in
theorem Ef (kind:Int) (attr:ByteArray) (ints:List Int) (words:List ByteArray) (lo hi:Int) (qi:Option Addr) (ci:Nat) (qw:Option Addr) (cw:Nat) (w:World) (s1:SlOf jq 1 w qi ci ints) (t1:SlOf jy 1 w qw cw words) (m1:ints.length * 8 + 64<=140737488355328) (m2:words.length * 16 + 64<=140737488355328) :
  Calls Tryz.prog 13 #[.agg #[.int .i64 kind,.string attr,.slice qi ints.length ci,.slice qw words.length cw,.int .i64 lo,.int .i64 hi]] w fun e w'=>(∃ g1 k1 g2 k2,e=.returned (.agg #[.int .i64 kind,.string attr,.slice (some ⟨g1,0,none⟩) ints.length k1,.slice (some ⟨g2,0,none⟩) words.length k2,.int .i64 lo,.int .i64 hi])/\LsOf jq 1 w' (some ⟨g1,0,none⟩) (ints ++ spI)/\ints.length + 2<=k1/\k1<=maxLen/\LsOf jy 1 w' (some ⟨g2,0,none⟩) (words ++ spS)/\words.length + 2<=k2/\k2<=maxLen/\w.heap.size<=g1/\w.heap.size<=g2)/\Below w.heap.size w w':=by
 obtain ⟨X,HX⟩:∃ X,(w.alloc (.cells #[.int .i64 kind,.string attr,.slice qi ints.length ci,.slice qw words.length cw,.int .i64 lo,.int .i64 hi] 26)).alloc (.cells #[.int .i64 0,.string ⟨#[]⟩,.slice none 0 0,.slice none 0 0,.int .i64 0,.int .i64 0] 26)=X:=⟨_,rfl⟩
 have hXs:X.heap.size=w.heap.size + 2:=by rw [<- HX];simp
 have hwX:Below w.heap.size w X:=by rw [<- HX];exact ((Below.refl _ _).alloc (Nat.le_refl _) _).alloc (by simp) _
 have hX0:X.heap[w.heap.size]? = some (.cells #[.int .i64 kind,.string attr,.slice qi ints.length ci,.slice qw words.length cw,.int .i64 lo,.int .i64 hi] 26 (0,0)):=by rw [<- HX,Below.heap_alloc _ _ _ (by simp)];exact jf _ _
 have hX1:X.heap[w.heap.size + 1]? = some (.cells #[.int .i64 0,.string ⟨#[]⟩,.slice none 0 0,.slice none 0 0,.int .i64 0,.int .i64 0] 26 (0,0)):=by rw [<- HX,show w.heap.size + 1=(w.alloc (.cells #[.int .i64 kind,.string attr,.slice qi ints.length ci,.slice qw words.length cw,.int .i64 lo,.int .i64 hi] 26)).heap.size by simp];exact jf _ _
 obtain ⟨x0,x1,x2,x3,x4,x5⟩:=kx hX0
 obtain ⟨y0,y1,y2,y3,y4,y5⟩:=kx hX1
 have xf:∀ o,X.frozen? ⟨w.heap.size,o,none⟩=false:=fun o=>gy hX0
 have yf:∀ o,X.frozen? ⟨w.heap.size + 1,o,none⟩=false:=fun o=>gy hX1
 have c1:=zd0 qi ci ints X (s1.below hwX) m1
 have c2:=fun w' (hb:Below w.heap.size w w')=>zdw qw cw words w' (t1.below hb) m2
 have HWX:=d9 hwX
 clear s1 t1 hwX hX0 hX1
 go_enter Tryz.func13,Tryz.ntmps13
 go_wp2_with (first
  | (go_at_call 48;refine c1.mono ?_;rintro e w1 ⟨⟨g1,k1,rfl,o1,r1⟩,b1⟩;obtain ⟨hc1,hf1⟩:=Gi b1;have hz1:w.heap.size + 1 < w1.heap.size:=(by have:=b1.size;omega);have hz1':w.heap.size < w1.heap.size:=(by omega);rw [hXs] at hc1 hf1;have O1:=d9 o1;have B1:=d9 b1;have R1:=d9 r1;clear o1 b1 r1)
  | (go_at_call 49;refine (c2 _ (by exact (d8 (uh HWX) (uh B1)).setCell (Nat.le_refl _) _)).mono ?_;rintro e w2 ⟨⟨g2,k2,rfl,o2,r2⟩,b2⟩;obtain ⟨hc2,hf2⟩:=Gi b2;simp only [World.size_setCell] at hc2 hf2;have hz2:w.heap.size + 1 < w2.heap.size:=(by have:=b2.size;simp at this;omega);have hz2':w.heap.size < w2.heap.size:=(by omega);have O2:=d9 o2;have B2:=d9 b2;have R2:=d9 r2;clear o2 b2 r2))
 refine bodyPost_ret (v:=.agg #[.int .i64 kind,.string attr,.slice (some ⟨g1,0,none⟩) ints.length k1,.slice (some ⟨g2,0,none⟩) words.length k2,.int .i64 lo,.int .i64 hi]) (by simp [results,Tryz.results13,go_sem, *]) rfl ?_
 have s1:=(uh B1).size
 have s2:=(uh B2).size
 simp only [World.size_setCell] at s2
 have u0:∀ (W:World),SameUp (w.heap.size + 2) W W:=fun W=>SameUp.of (Below.refl _ _)
 have u2:=(((((((u0 w2).set (p:=⟨w.heap.size,3,none⟩) (by simp) (.slice (some ⟨g2,0,none⟩) words.length k2)).set (p:=⟨w.heap.size + 1,0,none⟩) (by simp) (.int .i64 kind)).set (p:=⟨w.heap.size + 1,1,none⟩) (by simp) (.string attr)).set (p:=⟨w.heap.size + 1,2,none⟩) (by simp) (.slice (some ⟨g1,0,none⟩) ints.length k1)).set (p:=⟨w.heap.size + 1,3,none⟩) (by simp) (.slice (some ⟨g2,0,none⟩) words.length k2)).set (p:=⟨w.heap.size + 1,4,none⟩) (by simp) (.int .i64 lo)).set (p:=⟨w.heap.size + 1,5,none⟩) (by simp) (.int .i64 hi)
 have u1:=(((u0 w1).set (p:=⟨w.heap.size,2,none⟩) (by simp) (.slice (some ⟨g1,0,none⟩) ints.length k1)).trans (SameUp.of (uh B2))).trans u2
 have f1:∀ a,some (⟨g1,0,none⟩:Addr)=some a->w.heap.size + 2<=a.block:=fun a e=>by have:=(uh O1).from a e;omega
 have f2:∀ a,some (⟨g2,0,none⟩:Addr)=some a->w.heap.size + 2<=a.block:=fun a e=>by have:=(uh O2).from a e;simp only [World.size_setCell] at this;omega
 refine ⟨⟨g1,k1,g2,k2,rfl,((uh O1).ls.up f1 u1).2.2.2,uh R1,(uh O1).ls.2.2.1,((uh O2).ls.up f2 u2).2.2.2,uh R2,(uh O2).ls.2.2.1,by have:=f1 _ rfl;simp only at this;omega,by have:=f2 _ rfl;simp only at this;omega⟩, ?_⟩
 exact (((((((d8 ((d8 (uh HWX) (uh B1)).setCell (Nat.le_refl _) _) (uh B2)).setCell (Nat.le_refl _) _).setCell (Nat.le_succ _) _).setCell (Nat.le_succ _) _).setCell (Nat.le_succ _) _).setCell (Nat.le_succ _) _).setCell (Nat.le_succ _) _).setCell (Nat.le_succ _) _
/-- A predicate whose lists have marked spare room behind them, in blocks from B on. -/
def Sp (w:World) (B:Nat) (u:Pv) (p:Pd):Prop:=u.kind=p.kind/\u.attr=p.attr/\u.ni=p.ints.length/\u.nw=p.words.length/\u.lo=p.lo/\u.hi=p.hi/\SlOf jq 1 w u.qi u.ci (p.ints ++ spI)/\SlOf jy 1 w u.qw u.cw (p.words ++ spS)/\(∃ g,u.qi=some ⟨g,0,none⟩/\B<=g)/\(∃ g,u.qw=some ⟨g,0,none⟩/\B<=g)
theorem SlOf.head {α:Type} [Inhabited α] {enc:α->List Value} {k:Nat} {w:World} {q:Option Addr} {c:Nat} {l m:List α} (hk:0 < k) (h:SlOf enc k w q c (l ++ m)) (hq:q ≠ Option.none):SlOf enc k w q c l:=⟨fun e=>absurd e hq,by have:=h.2.1;rw [List.length_append] at this;omega,h.2.2.1,h.2.2.2.take hk⟩
theorem Sp.pd {w:World} {B:Nat} {u:Pv} {p:Pd} (h:Sp w B u p):PdIn w u p:=by
 obtain ⟨h1,h2,h3,h4,h5,h6,s1,s2,⟨g1,e1,_⟩,⟨g2,e2,_⟩⟩:=h
 exact ⟨h1,h2,h3,h4,h5,h6,s1.head (by decide) (by rw [e1];simp),s2.head (by decide) (by rw [e2];simp)⟩
theorem Sp.up {w w':World} {B:Nat} {u:Pv} {p:Pd} (h:Sp w B u p) (hu:SameUp B w w'):Sp w' B u p:=by
 obtain ⟨h1,h2,h3,h4,h5,h6,s1,s2,⟨g1,e1,b1⟩,⟨g2,e2,b2⟩⟩:=h
 exact ⟨h1,h2,h3,h4,h5,h6,s1.up (fun a e=>by rw [e1] at e;cases e;exact b1) hu,s2.up (fun a e=>by rw [e2] at e;cases e;exact b2) hu,⟨g1,e1,b1⟩,⟨g2,e2,b2⟩⟩
theorem Sp.keep {w w':World} {B:Nat} {u:Pv} {p:Pd} (h:Sp w B u p) (hb:Below w.heap.size w w'):Sp w' B u p:=h.up (SameUp.of hb)
theorem Sp.mono {w:World} {B C:Nat} {u:Pv} {p:Pd} (h:Sp w B u p) (hC:C<=B):Sp w C u p:=by
 obtain ⟨h1,h2,h3,h4,h5,h6,s1,s2,⟨g1,e1,b1⟩,⟨g2,e2,b2⟩⟩:=h
 exact ⟨h1,h2,h3,h4,h5,h6,s1,s2,⟨g1,e1,by omega⟩,⟨g2,e2,by omega⟩⟩
theorem zag (u:Pv) (p:Pd) (w:World) (hu:PdIn w u p) (m1:p.ints.length * 8 + 64<=140737488355328) (m2:p.words.length * 16 + 64<=140737488355328) :
  Calls Tryz.prog 13 #[.agg #[.int .i64 u.kind,.string u.attr,.slice u.qi u.ni u.ci,.slice u.qw u.nw u.cw,.int .i64 u.lo,.int .i64 u.hi]] w fun e w'=>(∃ v,e=.returned (.agg #[.int .i64 v.kind,.string v.attr,.slice v.qi v.ni v.ci,.slice v.qw v.nw v.cw,.int .i64 v.lo,.int .i64 v.hi])/\Sp w' w.heap.size v p)/\Below w.heap.size w w':=by
 obtain ⟨h1,h2,h3,h4,h5,h6,s1,s2⟩:=hu
 have h:=Ef p.kind p.attr p.ints p.words p.lo p.hi u.qi u.ci u.qw u.cw w s1 s2 m1 m2
 rw [<- h1,<- h2,<- h3,<- h4,<- h5,<- h6] at h
 refine h.mono ?_
 rintro e w' ⟨⟨g1,k1,g2,k2,rfl,a1,a2,a3,b1,b2,b3,c1,c2⟩,hb⟩
 exact ⟨⟨⟨u.kind,u.attr,some ⟨g1,0,none⟩,u.ni,k1,some ⟨g2,0,none⟩,u.nw,k2,u.lo,u.hi⟩,rfl,h1,h2,h3,h4,h5,h6,⟨(fun e=>by cases e),by rw [List.length_append];simp only [spI,List.length_cons,List.length_nil];omega,a3,a1⟩,⟨(fun e=>by cases e),by rw [List.length_append];simp only [spS,List.length_cons,List.length_nil];omega,b3,b1⟩,⟨g1,rfl,c1⟩,⟨g2,rfl,c2⟩⟩,hb⟩
theorem Xg (u v:Pv) (p:Pd) (B:Nat) (w:World) (hu:Sp w B u p) (hv:PdIn w v p) (hs:p.small) :
  Calls Tryz.prog 19 #[.agg #[.int .i64 u.kind,.string u.attr,.slice u.qi u.ni u.ci,.slice u.qw u.nw u.cw,.int .i64 u.lo,.int .i64 u.hi],.agg #[.int .i64 v.kind,.string v.attr,.slice v.qi v.ni v.ci,.slice v.qw v.nw v.cw,.int .i64 v.lo,.int .i64 v.hi]] w fun e w'=>e=.returned (.bool true)/\Below w.heap.size w w':=by
 obtain ⟨h1,h2,h3,h4,h5,h6,s1,s2,⟨g1,e1,_⟩,⟨g2,e2,_⟩⟩:=hu
 obtain ⟨k1,k2,k3,k4,k5,k6,t1,t2⟩:=hv
 have l1:=s1.2.1
 have l2:=s2.2.1
 rw [List.length_append] at l1 l2
 simp only [spI,spS,List.length_cons,List.length_nil] at l1 l2
 rw [e1] at s1
 rw [e2] at s2
 have h:=E8 p.kind p.attr p.ints p.words p.lo p.hi g1 u.ci g2 u.cw v.qi v.ci v.qw v.cw w s1.2.2.2 (by omega) s1.2.2.1 t1 s2.2.2.2 (by omega) s2.2.2.1 t2 hs.1 hs.2
 rw [h1,h2,h3,h4,h5,h6,k1,k2,k3,k4,k5,k6,e1,e2]
 exact h
/-- A list of such copies, of the call's own, that grows. -/
def GrowS (B:Nat) (w:World) (q:Option Addr) (c n:Nat) (ls:List Pd):Prop:=ls.length=n/\∃ us:List Pv,us.length=n/\OwnK sc 26 6 B w q c us/\OffP B (fun x=>∀ (j:Nat) (u:Pv) (l:Pd),us[j]? = some u->ls[j]? = some l->Sp x B u l) (Value.slice q n c).ownBlock w
theorem GrowS.nil (B:Nat) (w:World):GrowS B w none 0 0 []:=⟨rfl,[],rfl,OwnK.nil B w,fun _ _ _ j u l h=>by simp at h⟩
theorem GrowS.below {B:Nat} {w w':World} {q:Option Addr} {c n:Nat} {ls:List Pd} (h:GrowS B w q c n ls) (hb:Below w.heap.size w w'):GrowS B w' q c n ls:=by
 obtain ⟨h1,us,h2,h3,h4⟩:=h
 exact ⟨h1,us,h2,h3.below hb,h4.below hb⟩
theorem GrowS.preds {B:Nat} {w:World} {q:Option Addr} {c n:Nat} {ls:List Pd} (h:GrowS B w q c n ls):PdsOf w q c ls:=by
 obtain ⟨h1,us,h2,h3,h4⟩:=h
 exact ⟨us,h3.ls,by omega,fun j u p hj hp=>(h4.now j u p hj hp).pd⟩
theorem GrowS.snoc {w w9:World} {W:World} {q q9:Option Addr} {c c9 n B:Nat} {ls:List Pd} {us:List Pv} {u:Pv} {l:Pd} {o:Obj} (hl:ls.length=n) (hn:us.length=n) (ho:OwnK sc 26 6 B w q c us) (hof:OffP B (fun x=>∀ (j:Nat) (u:Pv) (l:Pd),us[j]? = some u->ls[j]? = some l->Sp x B u l) (Value.slice q n c).ownBlock w) (bv:Below w.heap.size w W) (lf:Sp W w.heap.size u l)
  (ho9:OwnK sc 26 6 B w9 q9 c9 (us ++ [u])) (hb9:Below B (W.alloc o) w9) (hg9:(W.alloc o).grownBy w9 (Value.slice q n c).ownBlock) (hor9:(Value.slice q9 (n + 1) c9).ownBlock=(Value.slice q n c).ownBlock ∨ (Value.slice q9 (n + 1) c9).ownBlock=some (W.alloc o).heap.size) (hB:B<=w.heap.size) :
  GrowS B w9 q9 c9 (n + 1) (ls ++ [l])/\Below B w w9:=by
 subst hn
 have hlt:∀ b,(Value.slice q us.length c).ownBlock=some b->b < w.heap.size:=fun b e=>(World.ownsRow.lt ho b e).2
 have bA:Below w.heap.size w (W.alloc o):=bv.alloc bv.size o
 have hL:OffP B (fun x=>Sp x B u l) (Value.slice q us.length c).ownBlock W:=fun x hs hc =>
  (lf.up (w':=x) ⟨hs,fun b o hb hlt2=>hc b o (Nat.le_trans hB hb) hlt2 fun e=>by have:=hlt b e.symm;omega⟩).mono hB
 have h1:=(hL.below ((Below.refl _ _).alloc (Nat.le_refl _) o)).step hg9 hor9
 have h2:=(hof.below bA).step hg9 hor9
 refine ⟨⟨by simp [hl],us ++ [u],by simp,ho9,fun x hs hc=>?_⟩,(bA.mono hB).trans hb9⟩
 exact Yj (Q:=Sp x B) (by omega) (h2 x hs hc) (h1 x hs hc)
/-- The j-th of the copies. -/
theorem GrowS.at {B:Nat} {w:World} {q:Option Addr} {c n:Nat} {ls:List Pd} (h:GrowS B w q c n ls) {j:Nat} {p:Pd} (hj:ls[j]? = some p) :
  ∃ b off u,q=some ⟨b,off,none⟩/\b < w.heap.size/\Sp w B u p/\w.cell? ⟨b,off + j * 6,none⟩=some (.int .i64 u.kind)/\w.cell? ⟨b,off + j * 6 + 1,none⟩=some (.string u.attr)/\w.cell? ⟨b,off + j * 6 + 2,none⟩=some (.slice u.qi u.ni u.ci)/\w.cell? ⟨b,off + j * 6 + 3,none⟩=some (.slice u.qw u.nw u.cw)/\w.cell? ⟨b,off + j * 6 + 4,none⟩=some (.int .i64 u.lo)/\w.cell? ⟨b,off + j * 6 + 5,none⟩=some (.int .i64 u.hi):=by
 obtain ⟨h1,us,h2,h3,h4⟩:=h
 have hl:j < ls.length:=(List.getElem?_eq_some_iff.1 hj).1
 obtain ⟨u,hu,_⟩:=je (l:=us) (k:=j) (by omega)
 obtain ⟨b,off,hq,hb,hc⟩:=h3.ls.2.2.2.at hu
 exact ⟨b,off,u,hq,hb,h4.now j u p hu hj,hc 0 (by omega),hc 1 (by omega),hc 2 (by omega),hc 3 (by omega),hc 4 (by omega),hc 5 (by omega)⟩
end Go.Proofs.YtimklglliffpcaaGreat
namespace Go.Proofs.YtimklglliffpcaaGreat
open Go.RowKit Go.Sort Go.Shelf
/-- Lists that trommelmem may copy. -/
def Fit (l:List Pd):Prop:=∀ p ∈ l,p.ints.length * 8 + 64<=140737488355328/\p.words.length * 16 + 64<=140737488355328
set_option maxHeartbeats 4000000 in
set_option maxRecDepth 100000 in
theorem R7 (q:Option Addr) (c:Nat) (l:List Pd) (w:World) (h:PdsOf w q c l) (hs:Fit l) (hl:l.length<=100000000) :
  Calls Tryz.prog 12 #[.slice q l.length c] w fun e w'=>(∃ q' c',e=.returned (.slice q' l.length c')/\GrowS w.heap.size w' q' c' l.length l)/\Below w.heap.size w w':=by
 have i9:(l.length:Int)<=100000000:=by omega
 have HH:=d9 h
 have HS:=d9 hs
 clear h hs
 go_enter Tryz.func12,Tryz.ntmps12
 go_wp2
 go_loopw [3,8] (fun sv iv wr=>∃ (k:Nat) (q1:Option Addr) (c1:Nat),k<=l.length/\iv=.int .i64 k/\sv=.slice q1 k c1/\Hid (GrowS w.heap.size wr q1 c1 k (l.take k))/\Hid (Below w.heap.size w wr)) (fun _ iv _=>l.length - (intOf iv).toNat)
 case atStart=>exact ⟨0,none,0,Nat.zero_le _,rfl,rfl,d9 (GrowS.nil _ _),d9 (Below.refl _ _)⟩
 case round =>
  obtain ⟨k,q1,c1,hk,rfl,rfl,HG,HB⟩:=hrel
  by_cases hlt:k < l.length
  ·obtain ⟨p,hx,_⟩:=je hlt
   obtain ⟨b,off,u,hq,hbb,hin,g0,g1,g2,g3,g4,g5⟩:=((uh HH).below (uh HB)).at hx
   subst hq
   have ki0:(0:Int)<=(k:Int):=by omega
   have ki1:(k:Int) < (l.length:Int):=by omega
   obtain ⟨Z,HZ⟩:∃ Z,wr.alloc (.cells #[.int .i64 u.kind,.string u.attr,.slice u.qi u.ni u.ci,.slice u.qw u.nw u.cw,.int .i64 u.lo,.int .i64 u.hi] 26)=Z:=⟨_,rfl⟩
   have bZ:Below wr.heap.size wr Z:=by rw [<- HZ];exact (Below.refl _ _).alloc (Nat.le_refl _) _
   have zk:Z.heap[wr.heap.size]? = some (.cells #[.int .i64 u.kind,.string u.attr,.slice u.qi u.ni u.ci,.slice u.qw u.nw u.cw,.int .i64 u.lo,.int .i64 u.hi] 26 (0,0)):=by rw [<- HZ];exact jf _ _
   obtain ⟨z0,z1,z2,z3,z4,z5⟩:=kq zk
   have hf:=uh HS p (List.mem_of_getElem? hx)
   have hN:=zag u p Z (hin.keep bZ) hf.1 hf.2
   have HT:=d9 (jh hx)
   have BZ:=d9 bZ
   obtain ⟨hl1,us,hn1,ho1,hof1⟩:=uh HG
   have HO:=d9 ho1
   have HF:=d9 hof1
   have HL1:=d9 hl1
   have HN1:=d9 hn1
   have hB0:=(uh HB).size
   clear bZ hin zk hf hx hl1 hn1 ho1 hof1
   go_upto_region 5 with (fail)
   clear HZ g0 g1 g2 g3 g4 g5
   go_wp2_with (first
    | (go_at_call 13;refine hN.mono ?_;rintro e w2 ⟨⟨v,rfl,ho⟩,b2⟩;have BV:=d9 (d8 (uh BZ) b2);have LF:=d9 (ho.mono (uh BZ).size);have hB1:=(uh BV).size;clear b2 ho)
    | (at_builtin;refine nr zby rfl _ _ rfl w.heap.size q1 c1 us ⟨_,0,none⟩ 1 [v] k 1 (k + 1) (uh HN1) rfl rfl rfl rfl ((uh HO).below ((uh BV).alloc hB1 _)) (Gv v rfl) (by unfold maxLen;omega) (by omega) (by simp only [jl];omega) ?_;intro q9 c9 w9 ho9 hb9 hg9 hor9;have HE:=d9 (GrowS.snoc (uh HL1) (uh HN1) (uh HO) (uh HF) (uh BV) (uh LF) ho9 hb9 hg9 hor9 hB0);clear ho9 hb9 hg9 hor9))
   go_roundw
   case rel=>exact ⟨k + 1,q9,c9,by omega,by go_num,rfl,d9 (by rw [uh HT];exact (uh HE).1),d9 ((uh HB).trans (uh HE).2)⟩
   case measure=>simp [intOf];omega
  ·have ki1:¬ (k:Int) < (l.length:Int):=by omega
   obtain rfl:l.length=k:=by omega
   rw [List.take_length] at HG
   go_wp2
   go_ret
   exact ⟨⟨q1,c1,rfl,uh HG⟩,uh HB⟩
end Go.Proofs.YtimklglliffpcaaGreat

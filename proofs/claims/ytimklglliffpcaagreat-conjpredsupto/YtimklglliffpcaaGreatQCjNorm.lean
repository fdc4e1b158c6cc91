/- conj.Normal, of every predicate. -/
import Derived.Test.YtimklglliffpcaaGreatQCjOnce
import Derived.Test.YtimklglliffpcaaGreatQCjCmp
namespace Go.Proofs.YtimklglliffpcaaGreat
open Go.RowKit Go.Sort Go.Shelf
theorem zaf {w:World} {b:Nat} {cs:Array Value} {T:TypeId} (h:w.heap[b]? = some (.cells cs T (0,0))) {n:Nat}:Wr w (some ⟨b,0,none⟩) n:=fun b' off e j _=>by
 cases e
 exact ⟨rfl,gy h⟩
set_option maxRecDepth 100000 in
theorem Ex (attr:ByteArray) (lo:Int) (w:World):Calls Tryz.prog 59 #[.string attr,.int .i64 lo,.int .i64 lo] w fun e w'=>(∃ q c,e=.returned (.tuple #[.agg #[.int .i64 1,.string attr,.slice q 1 c,.slice none 0 0,.int .i64 0,.int .i64 0],.bool true])/\SlOf jq 1 w' q c [lo]/\(∀ a,q=some a->w.heap.size<=a.block)/\Wr w' q 1)/\Below w.heap.size w w':=by
 obtain ⟨X,HX⟩:∃ X,w.alloc (.cells #[.int .i64 0,.string ⟨#[]⟩,.slice none 0 0,.slice none 0 0,.int .i64 0,.int .i64 0] 26)=X:=⟨_,rfl⟩
 have bX:Below w.heap.size w X:=by rw [<- HX];exact (Below.refl _ _).alloc (Nat.le_refl _) _
 have x8:X.heap[w.heap.size]? = some (.cells #[.int .i64 0,.string ⟨#[]⟩,.slice none 0 0,.slice none 0 0,.int .i64 0,.int .i64 0] 26 (0,0)):=by rw [<- HX];exact World.alloc_heap_new _ _
 obtain ⟨Y,HY⟩:∃ Y,X.alloc (.cells #[.int .i64 lo] 3)=Y:=⟨_,rfl⟩
 have bY:Below X.heap.size X Y:=by rw [<- HY];exact (Below.refl _ _).alloc (Nat.le_refl _) _
 have y8:Y.heap[X.heap.size]? = some (.cells #[.int .i64 lo] 3 (0,0)):=by rw [<- HY];exact World.alloc_heap_new _ _
 have lX:w.heap.size < X.heap.size:=(Array.getElem?_eq_some_iff.1 x8).1
 have BX:=d9 bX
 have BY0:=d9 bY
 have X8:=d9 x8
 have Y8:=d9 y8
 clear bX bY x8 y8
 go_enter Tryz.func59,Tryz.ntmps59
 go_wp2_with (go_at_call 55;refine (M4 attr _ 1 1 (by decide) _).mono ?_;rintro e w2 ⟨rfl,b2⟩;have B2:=d9 b2;have q8:=((d8 (uh BY0) b2).block _ lX).trans (uh X8);(obtain ⟨z0,z1,z2,z3,z4,z5⟩:=of6 q8);have zf:=fun o=>gy (o:=o) q8;clear b2 q8)
 refine bodyPost_ret (v:=.tuple #[.agg #[.int .i64 1,.string attr,.slice (some ⟨X.heap.size,0,none⟩) 1 1,.slice none 0 0,.int .i64 0,.int .i64 0],.bool true]) (by simp [results,Tryz.results59,go_sem, *]) rfl ⟨⟨_,_,rfl,((((((Ye (((uh B2).block _ (Array.getElem?_eq_some_iff.1 (uh Y8)).1).trans (uh Y8))).set (fun a e=>by cases e;exact Nat.ne_of_gt lX) 0 _).set (fun a e=>by cases e;exact Nat.ne_of_gt lX) 1 _).set (fun a e=>by cases e;exact Nat.ne_of_gt lX) 2 _).set (fun a e=>by cases e;exact Nat.ne_of_gt lX) 3 _).set (fun a e=>by cases e;exact Nat.ne_of_gt lX) 4 _).set (fun a e=>by cases e;exact Nat.ne_of_gt lX) 5 _,(fun a e=>by cases e;exact Nat.le_of_lt lX),(((((((zaf (((uh B2).block _ (Array.getElem?_eq_some_iff.1 (uh Y8)).1).trans (uh Y8))).set _ 0 _).set _ 1 _).set _ 2 _).set _ 3 _).set _ 4 _).set _ 5 _)⟩,((((((d8 (uh BX) (d8 (uh BY0) (uh B2))).setCell (p:=⟨w.heap.size,0,none⟩) (Nat.le_refl _) _).setCell (p:=⟨w.heap.size,1,none⟩) (Nat.le_refl _) _).setCell (p:=⟨w.heap.size,2,none⟩) (Nat.le_refl _) _).setCell (p:=⟨w.heap.size,3,none⟩) (Nat.le_refl _) _).setCell (p:=⟨w.heap.size,4,none⟩) (Nat.le_refl _) _).setCell (p:=⟨w.heap.size,5,none⟩) (Nat.le_refl _) _⟩
set_option maxRecDepth 100000 in
theorem A5 (attr:ByteArray) (qi:Option Addr) (ci:Nat) (ints:List Int) (qw:Option Addr) (cw:Nat) (words:List ByteArray) (lo hi:Int) (w:World) (h1:SlOf jq 1 w qi ci ints) (h2:SlOf jy 1 w qw cw words) (l1:ints.length<=1000000000000000000) (l2:words.length<=1000000000000000000) (hp:kg 3 attr ints words lo hi=true) (hc:lo=hi) :
  Calls Tryz.prog 16 #[.agg #[.int .i64 3,.string attr,.slice qi ints.length ci,.slice qw words.length cw,.int .i64 lo,.int .i64 hi]] w fun e w'=>(∃ q c,e=.returned (.tuple #[.agg #[.int .i64 1,.string attr,.slice q 1 c,.slice none 0 0,.int .i64 0,.int .i64 0],.bool true])/\SlOf jq 1 w' q c [lo]/\(∀ a,q=some a->w.heap.size<=a.block)/\Wr w' q 1)/\Below w.heap.size w w':=by
 subst hc
 obtain ⟨X,HX⟩:∃ X,(w.alloc (.cells #[.int .i64 3,.string attr,.slice qi ints.length ci,.slice qw words.length cw,.int .i64 lo,.int .i64 lo] 26)).alloc (.cells #[.int .i64 0,.string ⟨#[]⟩,.slice none 0 0,.slice none 0 0,.int .i64 0,.int .i64 0] 26)=X:=⟨_,rfl⟩
 have bX:Below w.heap.size w X:=by rw [<- HX];exact ((Below.refl _ _).alloc (Nat.le_refl _) _).alloc (by simp) _
 have x9:X.heap[w.heap.size + 1]? = some (.cells #[.int .i64 0,.string ⟨#[]⟩,.slice none 0 0,.slice none 0 0,.int .i64 0,.int .i64 0] 26 (0,0)):=by
  have:=World.alloc_heap_new (w.alloc (.cells #[.int .i64 3,.string attr,.slice qi ints.length ci,.slice qw words.length cw,.int .i64 lo,.int .i64 lo] 26)) (.cells #[.int .i64 0,.string ⟨#[]⟩,.slice none 0 0,.slice none 0 0,.int .i64 0,.int .i64 0] 26)
  rw [World.size_alloc] at this
  rw [<- HX];exact this
 have x8:X.heap[w.heap.size]? = some (.cells #[.int .i64 3,.string attr,.slice qi ints.length ci,.slice qw words.length cw,.int .i64 lo,.int .i64 lo] 26 (0,0)):=by
  rw [<- HX]
  exact (((Below.refl _ _).alloc (Nat.le_refl _) _).block w.heap.size (by simp)).trans (World.alloc_heap_new _ _)
 have hlt:w.heap.size + 1 < X.heap.size:=by rw [<- HX];simp
 have hlt0:w.heap.size < X.heap.size:=by omega
 obtain ⟨x0,x1,x2,x3,x4,x5⟩:=of6 x8
 obtain ⟨v0,v1,v2,v3,v4,v5⟩:=of6 x9
 have xf:=fun o=>gy (o:=o) x9
 have hP:=fun (W:World) (hW:Below w.heap.size w W)=>kw 3 attr qi ci ints qw cw words lo lo W (h1.below hW) (h2.below hW) l1 l2
 rw [hp] at hP
 simp only [py,if_true] at hP
 have H1:=d9 h1
 have H2:=d9 h2
 have X8:=d9 x8
 have X9:=d9 x9
 have BX:=d9 bX
 clear x8 x9 bX h1 h2
 go_enter Tryz.func16,Tryz.ntmps16
 go_wp2_with (first
  | (go_at_call 54;refine (hP _ (uh BX)).mono ?_;rintro e w1 ⟨rfl,b1⟩;have B1:=d9 b1;(obtain ⟨y0,y1,y2,y3,y4,y5⟩:=of6 ((b1.block _ hlt0).trans (uh X8)));have q9:=(b1.block _ hlt).trans (uh X9);(obtain ⟨z0,z1,z2,z3,z4,z5⟩:=of6 q9);have zf:=fun o=>gy (o:=o) q9;clear b1 q9)
  | (go_at_call 59;refine (Ex attr lo _).mono ?_;rintro e w2 ⟨⟨q2,c2,rfl,s2,p2,r2⟩,b2⟩;have S2:=d9 s2;have R2:=d9 r2;have L2:Hid (∀ a,q2=some a->w.heap.size + 1 < a.block):=d9 (fun a e=>by (have h1:=p2 a e);(have h2:=(uh B1).size);omega);clear s2 p2 r2;have B2:=d9 (d8 (uh B1) b2);clear b2 y0 y1 y2 y3 y4 y5 z0 z1 z2 z3 z4 z5 zf;(obtain ⟨y0,y1,y2,y3,y4,y5⟩:=of6 (((uh B2).block _ hlt0).trans (uh X8)));have q9:=((uh B2).block _ hlt).trans (uh X9);(obtain ⟨z0,z1,z2,z3,z4,z5⟩:=of6 q9);have zf:=fun o=>gy (o:=o) q9;clear q9))
 exact bodyPost_ret (v:=.tuple #[.agg #[.int .i64 1,.string attr,.slice q2 1 c2,.slice none 0 0,.int .i64 0,.int .i64 0],.bool true]) (by simp [results,Tryz.results16,go_sem, *]) rfl ⟨⟨q2,c2,rfl,((((((uh S2).set (fun a e=>by have:=uh L2 a e;omega) 0 _).set (fun a e=>by have:=uh L2 a e;omega) 1 _).set (fun a e=>by have:=uh L2 a e;omega) 2 _).set (fun a e=>by have:=uh L2 a e;omega) 3 _).set (fun a e=>by have:=uh L2 a e;omega) 4 _).set (fun a e=>by have:=uh L2 a e;omega) 5 _,(fun a e=>by have:=uh L2 a e;omega),(((((((uh R2).set _ 0 _).set _ 1 _).set _ 2 _).set _ 3 _).set _ 4 _).set _ 5 _)⟩,((((((d8 (uh BX) (uh B2)).setCell (p:=⟨w.heap.size + 1,0,none⟩) (Nat.le_succ _) _).setCell (p:=⟨w.heap.size + 1,1,none⟩) (Nat.le_succ _) _).setCell (p:=⟨w.heap.size + 1,2,none⟩) (Nat.le_succ _) _).setCell (p:=⟨w.heap.size + 1,3,none⟩) (Nat.le_succ _) _).setCell (p:=⟨w.heap.size + 1,4,none⟩) (Nat.le_succ _) _).setCell (p:=⟨w.heap.size + 1,5,none⟩) (Nat.le_succ _) _⟩
set_option maxRecDepth 100000 in
theorem Ev (attr:ByteArray) (qi:Option Addr) (ci:Nat) (ints:List Int) (qw:Option Addr) (cw:Nat) (words:List ByteArray) (lo hi:Int) (w:World) (h1:SlOf jq 1 w qi ci ints) (h2:SlOf jy 1 w qw cw words) (l1:ints.length<=1000000000000000000) (l2:words.length<=1000000000000000000) (hp:kg 4 attr ints words lo hi=true) (s:ByteArray) (hs:words[0]? = some s) :
  Calls Tryz.prog 16 #[.agg #[.int .i64 4,.string attr,.slice qi ints.length ci,.slice qw words.length cw,.int .i64 lo,.int .i64 hi]] w fun e w'=>(∃ q c,e=.returned (.tuple #[.agg #[.int .i64 4,.string attr,.slice none 0 0,.slice q 1 c,.int .i64 0,.int .i64 0],.bool true])/\SlOf jy 1 w' q c [s]/\∀ a,q=some a->w.heap.size<=a.block)/\Below w.heap.size w w':=by
 obtain ⟨bs,os,hqs,hbs,hcs⟩:=j6 h2 hs
 have hw0:0 < words.length:=(List.getElem?_eq_some_iff.1 hs).1
 subst hqs
 obtain ⟨X,HX⟩:∃ X,(w.alloc (.cells #[.int .i64 4,.string attr,.slice qi ints.length ci,.slice (some ⟨bs,os,none⟩) words.length cw,.int .i64 lo,.int .i64 hi] 26)).alloc (.cells #[.int .i64 0,.string ⟨#[]⟩,.slice none 0 0,.slice none 0 0,.int .i64 0,.int .i64 0] 26)=X:=⟨_,rfl⟩
 have bX:Below w.heap.size w X:=by rw [<- HX];exact ((Below.refl _ _).alloc (Nat.le_refl _) _).alloc (by simp) _
 have x9:X.heap[w.heap.size + 1]? = some (.cells #[.int .i64 0,.string ⟨#[]⟩,.slice none 0 0,.slice none 0 0,.int .i64 0,.int .i64 0] 26 (0,0)):=by
  have:=World.alloc_heap_new (w.alloc (.cells #[.int .i64 4,.string attr,.slice qi ints.length ci,.slice (some ⟨bs,os,none⟩) words.length cw,.int .i64 lo,.int .i64 hi] 26)) (.cells #[.int .i64 0,.string ⟨#[]⟩,.slice none 0 0,.slice none 0 0,.int .i64 0,.int .i64 0] 26)
  rw [World.size_alloc] at this
  rw [<- HX];exact this
 have x8:X.heap[w.heap.size]? = some (.cells #[.int .i64 4,.string attr,.slice qi ints.length ci,.slice (some ⟨bs,os,none⟩) words.length cw,.int .i64 lo,.int .i64 hi] 26 (0,0)):=by
  rw [<- HX]
  exact (((Below.refl _ _).alloc (Nat.le_refl _) _).block w.heap.size (by simp)).trans (World.alloc_heap_new _ _)
 have hlt:w.heap.size + 1 < X.heap.size:=by rw [<- HX];simp
 have hlt0:w.heap.size < X.heap.size:=by omega
 obtain ⟨x0,x1,x2,x3,x4,x5⟩:=of6 x8
 obtain ⟨v0,v1,v2,v3,v4,v5⟩:=of6 x9
 have xf:=fun o=>gy (o:=o) x9
 have hP:=fun (W:World) (hW:Below w.heap.size w W)=>kw 4 attr qi ci ints (some ⟨bs,os,none⟩) cw words lo hi W (h1.below hW) (h2.below hW) l1 l2
 rw [hp] at hP
 simp only [py,if_true] at hP
 have H1:=d9 h1
 have H2:=d9 h2
 have X8:=d9 x8
 have X9:=d9 x9
 have BX:=d9 bX
 clear x8 x9 bX h1 h2
 have hs8:=fun (W:World) (hW:Below w.heap.size w W)=>(hW.cell (p:=⟨bs,os + 0,none⟩) hbs).trans hcs
 simp only [Nat.add_zero] at hs8
 clear hcs hs
 go_enter Tryz.func16,Tryz.ntmps16
 go_wp2_with (go_at_call 54;refine (hP _ (uh BX)).mono ?_;rintro e w1 ⟨rfl,b1⟩;have B1:=d9 b1;(obtain ⟨y0,y1,y2,y3,y4,y5⟩:=of6 ((b1.block _ hlt0).trans (uh X8)));have q9:=(b1.block _ hlt).trans (uh X9);(obtain ⟨z0,z1,z2,z3,z4,z5⟩:=of6 q9);have zf:=fun o=>gy (o:=o) q9;have s8:=hs8 _ (d8 (uh BX) b1);clear b1 q9)
 go_region_with (go_at_call 60;refine (Fz attr s _).mono ?_;rintro e w2 ⟨⟨q2,c2,rfl,s2,p2⟩,b2⟩;have b2':Below w1.heap.size w1 w2:=(by first | exact b2 | exact jd b2 | exact jd (jd b2) | exact jd (jd (jd b2)));have S2:=d9 s2;have L2:Hid (∀ a,q2=some a->w.heap.size + 1 < a.block):=d9 (fun a e=>by (have h1:w1.heap.size<=a.block:=p2 a e);(have h2:=(uh B1).size);omega);have B2:=d9 (d8 (uh B1) b2');clear s2 p2 b2 b2' y0 y1 y2 y3 y4 y5 z0 z1 z2 z3 z4 z5 zf;(obtain ⟨y0,y1,y2,y3,y4,y5⟩:=of6 (((uh B2).block _ hlt0).trans (uh X8)));have q9:=((uh B2).block _ hlt).trans (uh X9);(obtain ⟨z0,z1,z2,z3,z4,z5⟩:=of6 q9);have zf:=fun o=>gy (o:=o) q9;clear q9)
 all_goals
  go_wp2
  exact bodyPost_ret (v:=.tuple #[.agg #[.int .i64 4,.string attr,.slice none 0 0,.slice q2 1 c2,.int .i64 0,.int .i64 0],.bool true]) (by simp [results,Tryz.results16,go_sem, *]) rfl ⟨⟨q2,c2,rfl,((((((uh S2).set (fun a e=>by have:=uh L2 a e;omega) 0 _).set (fun a e=>by have:=uh L2 a e;omega) 1 _).set (fun a e=>by have:=uh L2 a e;omega) 2 _).set (fun a e=>by have:=uh L2 a e;omega) 3 _).set (fun a e=>by have:=uh L2 a e;omega) 4 _).set (fun a e=>by have:=uh L2 a e;omega) 5 _,(fun a e=>by have:=uh L2 a e;omega)⟩,((((((d8 (uh BX) (uh B2)).setCell (p:=⟨w.heap.size + 1,0,none⟩) (Nat.le_succ _) _).setCell (p:=⟨w.heap.size + 1,1,none⟩) (Nat.le_succ _) _).setCell (p:=⟨w.heap.size + 1,2,none⟩) (Nat.le_succ _) _).setCell (p:=⟨w.heap.size + 1,3,none⟩) (Nat.le_succ _) _).setCell (p:=⟨w.heap.size + 1,4,none⟩) (Nat.le_succ _) _).setCell (p:=⟨w.heap.size + 1,5,none⟩) (Nat.le_succ _) _⟩
def pr:Pd:=⟨0,⟨#[]⟩,[],[],0,0⟩
def pc:Pv:=⟨0,⟨#[]⟩,none,0,0,none,0,0,0,0⟩
theorem pn (w:World):PdIn w pc pr:=⟨rfl,rfl,rfl,rfl,rfl,rfl,SlOf.none _,SlOf.none _⟩
def Pd.ok (p:Pd):Bool:=kg p.kind p.attr p.ints p.words p.lo p.hi
/-- The normal predicate. -/
def jr (p:Pd):Option Pd :=
 if p.ok then (if p.kind=1 then some ⟨1,p.attr,mx p.ints,[],0,0⟩ else if p.kind=2 then some ⟨2,p.attr,[],mq p.words,0,0⟩ else if p.kind=3 then (if p.hi < p.lo then none else if p.lo=p.hi then some ⟨1,p.attr,[p.lo],[],0,0⟩ else some ⟨3,p.attr,[],[],p.lo,p.hi⟩) else some ⟨4,p.attr,[],p.words,0,0⟩) else none
/-- The lists of a predicate lie behind B. -/
def Fr2 (B:Nat) (u:Pv):Prop:=(∀ a,u.qi=some a->B<=a.block)/\∀ a,u.qw=some a->B<=a.block
theorem Fr2.none2 {B:Nat} {u:Pv} (h1:u.qi=none) (h2:u.qw=none):Fr2 B u:=⟨fun a e=>(by rw [h1] at e;cases e),fun a e=>(by rw [h2] at e;cases e)⟩
/-- A predicate in memory whose members may be written: they lie behind B. -/
def PdOwn (B:Nat) (w:World) (u:Pv) (p:Pd):Prop:=PdIn w u p/\Fr2 B u/\(p.kind=1->Wr w u.qi p.ints.length)/\(p.kind=2->Wr w u.qw p.words.length)
theorem PdOwn.mono {B B':Nat} {w:World} {u:Pv} {p:Pd} (h:PdOwn B w u p) (hb:B'<=B):PdOwn B' w u p:=⟨h.1,⟨fun a g=>Nat.le_trans hb (h.2.1.1 a g),fun a g=>Nat.le_trans hb (h.2.1.2 a g)⟩,h.2.2⟩
theorem PdOwn.below {B:Nat} {w w':World} {u:Pv} {p:Pd} (h:PdOwn B w u p) (hb:Below w.heap.size w w'):PdOwn B w' u p:=⟨h.1.keep hb,h.2.1,fun e=>(h.2.2.1 e).below h.1.2.2.2.2.2.2.1 hb,fun e=>(h.2.2.2 e).below h.1.2.2.2.2.2.2.2 hb⟩
theorem ku (B:Nat) (w:World):PdOwn B w pc pr:=⟨pn w,Fr2.none2 rfl rfl,fun e=>absurd e (by decide),fun e=>absurd e (by decide)⟩
theorem ql {p:Pd} (h:p.ok=true):p.kind=1 ∨ p.kind=2 ∨ p.kind=3 ∨ (p.kind=4/\∃ s,p.words=[s]):=by
 unfold Pd.ok kg at h
 by_cases h1:p.kind=1
 ·exact Or.inl h1
 by_cases h2:p.kind=2
 ·exact Or.inr (Or.inl h2)
 by_cases h3:p.kind=3
 ·exact Or.inr (Or.inr (Or.inl h3))
 by_cases h4:p.kind=4
 ·refine Or.inr (Or.inr (Or.inr ⟨h4, ?_⟩))
  rw [h4] at h
  simp [p9] at h
  exact List.length_eq_one_iff.1 (by omega)
 ·simp [h1,h2,h3,h4] at h
theorem mw {p:Pd} (h:p.ok=false):jr p=none:=by unfold jr;rw [h];rfl
theorem qt {p:Pd} (h:p.ok=true) (hk:p.kind=1):jr p=some ⟨1,p.attr,mx p.ints,[],0,0⟩:=by unfold jr;rw [h,if_pos rfl,if_pos hk]
theorem xi {p:Pd} (h:p.ok=true) (hk:p.kind=2):jr p=some ⟨2,p.attr,[],mq p.words,0,0⟩:=by unfold jr;rw [h,if_pos rfl,if_neg (by omega),if_pos hk]
theorem qv {p:Pd} (h:p.ok=true) (hk:p.kind=3):jr p=if p.hi < p.lo then none else if p.lo=p.hi then some ⟨1,p.attr,[p.lo],[],0,0⟩ else some ⟨3,p.attr,[],[],p.lo,p.hi⟩:=by unfold jr;rw [h,if_pos rfl,if_neg (by omega),if_neg (by omega),if_pos hk]
theorem ta {p:Pd} (h:p.ok=true) (hk:p.kind=4):jr p=some ⟨4,p.attr,[],p.words,0,0⟩:=by unfold jr;rw [h,if_pos rfl,if_neg (by omega),if_neg (by omega),if_neg (by omega)]
/-- conj.Normal. -/
theorem tu (u:Pv) (p:Pd) (w:World) (hu:PdIn w u p) (hs:p.small) :
  Calls Tryz.prog 16 #[u.val] w fun e w'=>(∃ v,e=.returned (.tuple #[Pv.val v,.bool (jr p).isSome])/\PdOwn w.heap.size w' v ((jr p).getD pr))/\Below w.heap.size w w':=by
 obtain ⟨hk,ha,hi,hw,hl,hh,s1,s2⟩:=hu
 have l1:p.ints.length<=1000000000000000000:=by have:=hs.1;omega
 have l2:p.words.length<=1000000000000000000:=by have:=hs.2;omega
 unfold Pv.val
 rw [hk,ha,hi,hw,hl,hh]
 cases hp:p.ok with
 | false =>
  rw [mw hp]
  exact (Ds p.kind p.attr u.qi u.ci p.ints u.qw u.cw p.words p.lo p.hi w s1 s2 l1 l2 hp).mono fun e w' ⟨he,hb⟩=>⟨⟨pc,he,ku _ _⟩,hb⟩
 | true =>
  have hp':=hp
  unfold Pd.ok at hp'
  rcases ql hp with h | h | h | ⟨h,s,hs1⟩
  ·rw [qt hp h]
   rw [h] at hp' ⊢
   refine (Ep p.attr u.qi u.ci p.ints u.qw u.cw p.words p.lo p.hi w s1 s2 l1 l2 hp').mono fun e w' ⟨⟨q,c,he,hq,hB,hW⟩,hb⟩=>⟨⟨⟨1,p.attr,q,(mx p.ints).length,c,none,0,0,0,0⟩,he,⟨rfl,rfl,rfl,rfl,rfl,rfl,hq,SlOf.none _⟩,⟨hB,fun a e=>(by cases e)⟩,fun _=>hW,(fun e=>by simp at e)⟩,hb⟩
  ·rw [xi hp h]
   rw [h] at hp' ⊢
   refine (Dw p.attr u.qi u.ci p.ints u.qw u.cw p.words p.lo p.hi w s1 s2 l1 l2 hp').mono fun e w' ⟨⟨q,c,he,hq,hB,hW⟩,hb⟩=>⟨⟨⟨2,p.attr,none,0,0,q,(mq p.words).length,c,0,0⟩,he,⟨rfl,rfl,rfl,rfl,rfl,rfl,SlOf.none _,hq⟩,⟨fun a e=>(by cases e),hB⟩,(fun e=>by simp at e),fun _=>hW⟩,hb⟩
  ·rw [qv hp h]
   rw [h] at hp' ⊢
   by_cases hc:p.hi < p.lo
   ·rw [if_pos hc]
    exact (D7 p.attr u.qi u.ci p.ints u.qw u.cw p.words p.lo p.hi w s1 s2 l1 l2 hp' hc).mono fun e w' ⟨he,hb⟩=>⟨⟨pc,he,ku _ _⟩,hb⟩
   ·rw [if_neg hc]
    by_cases hq:p.lo=p.hi
    ·rw [if_pos hq]
     refine (A5 p.attr u.qi u.ci p.ints u.qw u.cw p.words p.lo p.hi w s1 s2 l1 l2 hp' hq).mono fun e w' ⟨⟨q,c,he,hq,hB,hW⟩,hb⟩=>⟨⟨⟨1,p.attr,q,1,c,none,0,0,0,0⟩,he,⟨rfl,rfl,rfl,rfl,rfl,rfl,hq,SlOf.none _⟩,⟨hB,fun a e=>(by cases e)⟩,fun _=>hW,(fun e=>by simp at e)⟩,hb⟩
    ·rw [if_neg hq]
     exact (D3 p.attr u.qi u.ci p.ints u.qw u.cw p.words p.lo p.hi w s1 s2 l1 l2 hp' (by omega)).mono fun e w' ⟨he,hb⟩=>⟨⟨⟨3,p.attr,none,0,0,none,0,0,p.lo,p.hi⟩,he,⟨rfl,rfl,rfl,rfl,rfl,rfl,SlOf.none _,SlOf.none _⟩,Fr2.none2 rfl rfl,(fun e=>by simp at e),(fun e=>by simp at e)⟩,hb⟩
  ·rw [ta hp h]
   rw [h] at hp' ⊢
   exact (Ev p.attr u.qi u.ci p.ints u.qw u.cw p.words p.lo p.hi w s1 s2 l1 l2 hp' s (by rw [hs1];rfl)).mono fun e w' ⟨⟨q,c,he,hq,hB⟩,hb⟩=>⟨⟨⟨4,p.attr,none,0,0,q,1,c,0,0⟩,he,⟨rfl,rfl,rfl,(by show 1=p.words.length;rw [hs1];rfl),rfl,rfl,SlOf.none _,(by show SlOf jy 1 w' q c p.words;rw [hs1];exact hq)⟩,⟨fun a e=>(by cases e),hB⟩,(fun e=>by simp at e),(fun e=>by simp at e)⟩,hb⟩
end Go.Proofs.YtimklglliffpcaaGreat

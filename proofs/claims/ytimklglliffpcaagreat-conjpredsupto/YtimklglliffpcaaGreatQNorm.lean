/- conj.Normal, for every predicate. -/
import Derived.Test.YtimklglliffpcaaGreatQZab
import Derived.Test.YtimklglliffpcaaGreatQMemNode
namespace Go.Proofs.YtimklglliffpcaaGreat
open Go.RowKit Go.Sort Go.Shelf
theorem of6 {w:World} {M:Nat} {a0 a1 a2 a3 a4 a5:Value} {T:TypeId} (h:w.heap[M]? = some (.cells #[a0,a1,a2,a3,a4,a5] T (0,0))):w.cell? ⟨M,0,none⟩=some a0/\w.cell? ⟨M,1,none⟩=some a1/\w.cell? ⟨M,2,none⟩=some a2/\w.cell? ⟨M,3,none⟩=some a3/\w.cell? ⟨M,4,none⟩=some a4/\w.cell? ⟨M,5,none⟩=some a5:=by
 refine ⟨?_, ?_, ?_, ?_, ?_, ?_⟩ <;> (unfold World.cell?;simp [h])
theorem M4 (attr:ByteArray) (q:Option Addr) (n c:Nat) (h:0 < n) (w:World):Calls Tryz.prog 55 #[.string attr,.slice q n c] w fun e w'=>e=.returned (.tuple #[.agg #[.int .i64 1,.string attr,.slice q n c,.slice none 0 0,.int .i64 0,.int .i64 0],.bool true])/\Below w.heap.size w w':=by
 have h1:((n:Int) == 0)=false:=by rw [beq_eq_false_iff_ne];omega
 go_enter Tryz.func55,Tryz.ntmps55
 go_wp2
 exact bodyPost_ret (v:=.tuple #[.agg #[.int .i64 1,.string attr,.slice q n c,.slice none 0 0,.int .i64 0,.int .i64 0],.bool true]) (by simp [results,Tryz.results55,go_sem]) rfl ⟨rfl,(Below.refl _ _).alloc (Nat.le_refl _) _⟩
theorem Xc (attr:ByteArray) (q:Option Addr) (n c:Nat) (h:0 < n) (w:World):Calls Tryz.prog 57 #[.string attr,.slice q n c] w fun e w'=>e=.returned (.tuple #[.agg #[.int .i64 2,.string attr,.slice none 0 0,.slice q n c,.int .i64 0,.int .i64 0],.bool true])/\Below w.heap.size w w':=by
 have h1:((n:Int) == 0)=false:=by rw [beq_eq_false_iff_ne];omega
 go_enter Tryz.func57,Tryz.ntmps57
 go_wp2
 exact bodyPost_ret (v:=.tuple #[.agg #[.int .i64 2,.string attr,.slice none 0 0,.slice q n c,.int .i64 0,.int .i64 0],.bool true]) (by simp [results,Tryz.results57,go_sem]) rfl ⟨rfl,(Below.refl _ _).alloc (Nat.le_refl _) _⟩
theorem Ed (attr:ByteArray) (lo hi:Int) (h:hi < lo) (w:World):Calls Tryz.prog 59 #[.string attr,.int .i64 lo,.int .i64 hi] w fun e w'=>e=.returned (.tuple #[.agg #[.int .i64 0,.string ⟨#[]⟩,.slice none 0 0,.slice none 0 0,.int .i64 0,.int .i64 0],.bool false])/\Below w.heap.size w w':=by
 go_enter Tryz.func59,Tryz.ntmps59
 go_wp2
 exact bodyPost_ret (v:=.tuple #[.agg #[.int .i64 0,.string ⟨#[]⟩,.slice none 0 0,.slice none 0 0,.int .i64 0,.int .i64 0],.bool false]) (by simp [results,Tryz.results59,go_sem]) rfl ⟨rfl,(Below.refl _ _).alloc (Nat.le_refl _) _⟩
theorem Gl (attr:ByteArray) (lo hi:Int) (h:lo < hi) (w:World):Calls Tryz.prog 59 #[.string attr,.int .i64 lo,.int .i64 hi] w fun e w'=>e=.returned (.tuple #[.agg #[.int .i64 3,.string attr,.slice none 0 0,.slice none 0 0,.int .i64 lo,.int .i64 hi],.bool true])/\Below w.heap.size w w':=by
 have h1:¬ hi < lo:=by omega
 have h2:(lo == hi)=false:=by rw [beq_eq_false_iff_ne];omega
 go_enter Tryz.func59,Tryz.ntmps59
 go_wp2
 exact bodyPost_ret (v:=.tuple #[.agg #[.int .i64 3,.string attr,.slice none 0 0,.slice none 0 0,.int .i64 lo,.int .i64 hi],.bool true]) (by simp [results,Tryz.results59,go_sem]) rfl ⟨rfl,(Below.refl _ _).alloc (Nat.le_refl _) _⟩
theorem Ye {w:World} {b:Nat} {x:Int} (h:w.heap[b]? = some (.cells #[.int .i64 x] 3 (0,0))):SlOf jq 1 w (some ⟨b,0,none⟩) 1 [x] :=
 ⟨(fun h=>by cases h),by simp,by unfold maxLen;omega,LsOf.one (Array.getElem?_eq_some_iff.1 h).1 fun c hc=>by
  obtain rfl:c=0:=by omega
  unfold World.cell?;simp [h,jq]⟩
theorem Yu {w:World} {b:Nat} {x:ByteArray} (h:w.heap[b]? = some (.cells #[.string x] 9 (0,0))):SlOf jy 1 w (some ⟨b,0,none⟩) 1 [x] :=
 ⟨(fun h=>by cases h),by simp,by unfold maxLen;omega,LsOf.one (Array.getElem?_eq_some_iff.1 h).1 fun c hc=>by
  obtain rfl:c=0:=by omega
  unfold World.cell?;simp [h,jy]⟩
set_option maxRecDepth 100000 in
theorem Fz (attr s:ByteArray) (w:World):Calls Tryz.prog 60 #[.string attr,.string s] w fun e w'=>(∃ q c,e=.returned (.tuple #[.agg #[.int .i64 4,.string attr,.slice none 0 0,.slice q 1 c,.int .i64 0,.int .i64 0],.bool true])/\SlOf jy 1 w' q c [s]/\∀ a,q=some a->w.heap.size<=a.block)/\Below w.heap.size w w':=by
 obtain ⟨X,HX⟩:∃ X,w.alloc (.cells #[.int .i64 0,.string ⟨#[]⟩,.slice none 0 0,.slice none 0 0,.int .i64 0,.int .i64 0] 26)=X:=⟨_,rfl⟩
 have bX:Below w.heap.size w X:=by rw [<- HX];exact (Below.refl _ _).alloc (Nat.le_refl _) _
 have x8:X.heap[w.heap.size]? = some (.cells #[.int .i64 0,.string ⟨#[]⟩,.slice none 0 0,.slice none 0 0,.int .i64 0,.int .i64 0] 26 (0,0)):=by rw [<- HX];exact World.alloc_heap_new _ _
 obtain ⟨Y,HY⟩:∃ Y,X.alloc (.cells #[.string s] 9)=Y:=⟨_,rfl⟩
 have bY:Below X.heap.size X Y:=by rw [<- HY];exact (Below.refl _ _).alloc (Nat.le_refl _) _
 have y8:Y.heap[X.heap.size]? = some (.cells #[.string s] 9 (0,0)):=by rw [<- HY];exact World.alloc_heap_new _ _
 have lX:w.heap.size < X.heap.size:=(Array.getElem?_eq_some_iff.1 x8).1
 have q8:=(bY.block _ lX).trans x8
 obtain ⟨z0,z1,z2,z3,z4,z5⟩:=of6 q8
 have zf:=fun o=>gy (o:=o) q8
 have BX:=d9 bX
 have BY0:=d9 bY
 have Y8:=d9 y8
 clear bX bY x8 y8 q8
 go_enter Tryz.func60,Tryz.ntmps60
 go_wp2
 refine bodyPost_ret (v:=.tuple #[.agg #[.int .i64 4,.string attr,.slice none 0 0,.slice (some ⟨X.heap.size,0,none⟩) 1 1,.int .i64 0,.int .i64 0],.bool true]) (by simp [results,Tryz.results60,go_sem, *]) rfl ⟨⟨_,_,rfl,((((((Yu (uh Y8)).set (fun a e=>by cases e;exact Nat.ne_of_gt lX) 0 _).set (fun a e=>by cases e;exact Nat.ne_of_gt lX) 1 _).set (fun a e=>by cases e;exact Nat.ne_of_gt lX) 2 _).set (fun a e=>by cases e;exact Nat.ne_of_gt lX) 3 _).set (fun a e=>by cases e;exact Nat.ne_of_gt lX) 4 _).set (fun a e=>by cases e;exact Nat.ne_of_gt lX) 5 _,fun a e=>by cases e;exact Nat.le_of_lt lX⟩,((((((d8 (uh BX) (uh BY0)).setCell (p:=⟨w.heap.size,0,none⟩) (Nat.le_refl _) _).setCell (p:=⟨w.heap.size,1,none⟩) (Nat.le_refl _) _).setCell (p:=⟨w.heap.size,2,none⟩) (Nat.le_refl _) _).setCell (p:=⟨w.heap.size,3,none⟩) (Nat.le_refl _) _).setCell (p:=⟨w.heap.size,4,none⟩) (Nat.le_refl _) _).setCell (p:=⟨w.heap.size,5,none⟩) (Nat.le_refl _) _⟩
set_option maxRecDepth 100000 in
theorem Ds (kind:Int) (attr:ByteArray) (qi:Option Addr) (ci:Nat) (ints:List Int) (qw:Option Addr) (cw:Nat) (words:List ByteArray) (lo hi:Int) (w:World) (h1:SlOf jq 1 w qi ci ints) (h2:SlOf jy 1 w qw cw words) (l1:ints.length<=1000000000000000000) (l2:words.length<=1000000000000000000) (hp:kg kind attr ints words lo hi=false) :
  Calls Tryz.prog 16 #[.agg #[.int .i64 kind,.string attr,.slice qi ints.length ci,.slice qw words.length cw,.int .i64 lo,.int .i64 hi]] w fun e w'=>e=.returned (.tuple #[.agg #[.int .i64 0,.string ⟨#[]⟩,.slice none 0 0,.slice none 0 0,.int .i64 0,.int .i64 0],.bool false])/\Below w.heap.size w w':=by
 obtain ⟨X,HX⟩:∃ X,(w.alloc (.cells #[.int .i64 kind,.string attr,.slice qi ints.length ci,.slice qw words.length cw,.int .i64 lo,.int .i64 hi] 26)).alloc (.cells #[.int .i64 0,.string ⟨#[]⟩,.slice none 0 0,.slice none 0 0,.int .i64 0,.int .i64 0] 26)=X:=⟨_,rfl⟩
 have bX:Below w.heap.size w X:=by rw [<- HX];exact ((Below.refl _ _).alloc (Nat.le_refl _) _).alloc (by simp) _
 have x9:X.heap[w.heap.size + 1]? = some (.cells #[.int .i64 0,.string ⟨#[]⟩,.slice none 0 0,.slice none 0 0,.int .i64 0,.int .i64 0] 26 (0,0)):=by
  have:=World.alloc_heap_new (w.alloc (.cells #[.int .i64 kind,.string attr,.slice qi ints.length ci,.slice qw words.length cw,.int .i64 lo,.int .i64 hi] 26)) (.cells #[.int .i64 0,.string ⟨#[]⟩,.slice none 0 0,.slice none 0 0,.int .i64 0,.int .i64 0] 26)
  rw [World.size_alloc] at this
  rw [<- HX];exact this
 have x8:X.heap[w.heap.size]? = some (.cells #[.int .i64 kind,.string attr,.slice qi ints.length ci,.slice qw words.length cw,.int .i64 lo,.int .i64 hi] 26 (0,0)):=by
  rw [<- HX]
  exact (((Below.refl _ _).alloc (Nat.le_refl _) _).block w.heap.size (by simp)).trans (World.alloc_heap_new _ _)
 have hlt:w.heap.size + 1 < X.heap.size:=by rw [<- HX];simp
 have hlt0:w.heap.size < X.heap.size:=by omega
 obtain ⟨x0,x1,x2,x3,x4,x5⟩:=of6 x8
 obtain ⟨v0,v1,v2,v3,v4,v5⟩:=of6 x9
 have xf:=fun o=>gy (o:=o) x9
 have hP:=fun (W:World) (hW:Below w.heap.size w W)=>kw kind attr qi ci ints qw cw words lo hi W (h1.below hW) (h2.below hW) l1 l2
 rw [hp] at hP
 simp only [py,Bool.false_eq_true,if_false] at hP
 have H1:=d9 h1
 have H2:=d9 h2
 have X8:=d9 x8
 have X9:=d9 x9
 have BX:=d9 bX
 clear x8 x9 bX h1 h2
 go_enter Tryz.func16,Tryz.ntmps16
 go_wp2_with (go_at_call 54;refine (hP _ (uh BX)).mono ?_;rintro e w1 ⟨rfl,b1⟩;have B1:=d9 b1;(obtain ⟨y0,y1,y2,y3,y4,y5⟩:=of6 ((b1.block _ hlt0).trans (uh X8)));have q9:=(b1.block _ hlt).trans (uh X9);(obtain ⟨z0,z1,z2,z3,z4,z5⟩:=of6 q9);have zf:=fun o=>gy (o:=o) q9;clear b1 q9)
 exact bodyPost_ret (v:=.tuple #[.agg #[.int .i64 0,.string ⟨#[]⟩,.slice none 0 0,.slice none 0 0,.int .i64 0,.int .i64 0],.bool false]) (by simp [results,Tryz.results16,go_sem, *]) rfl ⟨rfl,((((((d8 (uh BX) (uh B1)).setCell (p:=⟨w.heap.size + 1,0,none⟩) (Nat.le_succ _) _).setCell (p:=⟨w.heap.size + 1,1,none⟩) (Nat.le_succ _) _).setCell (p:=⟨w.heap.size + 1,2,none⟩) (Nat.le_succ _) _).setCell (p:=⟨w.heap.size + 1,3,none⟩) (Nat.le_succ _) _).setCell (p:=⟨w.heap.size + 1,4,none⟩) (Nat.le_succ _) _).setCell (p:=⟨w.heap.size + 1,5,none⟩) (Nat.le_succ _) _⟩
end Go.Proofs.YtimklglliffpcaaGreat

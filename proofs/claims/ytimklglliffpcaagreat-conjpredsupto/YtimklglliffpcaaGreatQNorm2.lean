/- conj.Normal of ranges and prefixes. -/
import Derived.Test.YtimklglliffpcaaGreatQNorm
namespace Go.Proofs.YtimklglliffpcaaGreat
open Go.RowKit Go.Sort Go.Shelf
set_option maxRecDepth 100000 in
theorem D7 (attr:ByteArray) (qi:Option Addr) (ci:Nat) (ints:List Int) (qw:Option Addr) (cw:Nat) (words:List ByteArray) (lo hi:Int) (w:World) (h1:SlOf jq 1 w qi ci ints) (h2:SlOf jy 1 w qw cw words) (l1:ints.length<=1000000000000000000) (l2:words.length<=1000000000000000000) (hp:kg 3 attr ints words lo hi=true) (hc:hi < lo) :
  Calls Tryz.prog 16 #[.agg #[.int .i64 3,.string attr,.slice qi ints.length ci,.slice qw words.length cw,.int .i64 lo,.int .i64 hi]] w fun e w'=>e=.returned (.tuple #[.agg #[.int .i64 0,.string ⟨#[]⟩,.slice none 0 0,.slice none 0 0,.int .i64 0,.int .i64 0],.bool false])/\Below w.heap.size w w':=by
 obtain ⟨X,HX⟩:∃ X,(w.alloc (.cells #[.int .i64 3,.string attr,.slice qi ints.length ci,.slice qw words.length cw,.int .i64 lo,.int .i64 hi] 26)).alloc (.cells #[.int .i64 0,.string ⟨#[]⟩,.slice none 0 0,.slice none 0 0,.int .i64 0,.int .i64 0] 26)=X:=⟨_,rfl⟩
 have bX:Below w.heap.size w X:=by rw [<- HX];exact ((Below.refl _ _).alloc (Nat.le_refl _) _).alloc (by simp) _
 have x9:X.heap[w.heap.size + 1]? = some (.cells #[.int .i64 0,.string ⟨#[]⟩,.slice none 0 0,.slice none 0 0,.int .i64 0,.int .i64 0] 26 (0,0)):=by
  have:=World.alloc_heap_new (w.alloc (.cells #[.int .i64 3,.string attr,.slice qi ints.length ci,.slice qw words.length cw,.int .i64 lo,.int .i64 hi] 26)) (.cells #[.int .i64 0,.string ⟨#[]⟩,.slice none 0 0,.slice none 0 0,.int .i64 0,.int .i64 0] 26)
  rw [World.size_alloc] at this
  rw [<- HX];exact this
 have x8:X.heap[w.heap.size]? = some (.cells #[.int .i64 3,.string attr,.slice qi ints.length ci,.slice qw words.length cw,.int .i64 lo,.int .i64 hi] 26 (0,0)):=by
  rw [<- HX]
  exact (((Below.refl _ _).alloc (Nat.le_refl _) _).block w.heap.size (by simp)).trans (World.alloc_heap_new _ _)
 have hlt:w.heap.size + 1 < X.heap.size:=by rw [<- HX];simp
 have hlt0:w.heap.size < X.heap.size:=by omega
 obtain ⟨x0,x1,x2,x3,x4,x5⟩:=of6 x8
 obtain ⟨v0,v1,v2,v3,v4,v5⟩:=of6 x9
 have xf:=fun o=>gy (o:=o) x9
 have hP:=fun (W:World) (hW:Below w.heap.size w W)=>kw 3 attr qi ci ints qw cw words lo hi W (h1.below hW) (h2.below hW) l1 l2
 rw [hp] at hP
 simp only [py,if_true] at hP
 have H1:=d9 h1
 have H2:=d9 h2
 have X8:=d9 x8
 have X9:=d9 x9
 have BX:=d9 bX
 clear x8 x9 bX h1 h2
 go_enter Tryz.func16,Tryz.ntmps16
 go_wp2_with (first
  | (go_at_call 54;refine (hP _ (uh BX)).mono ?_;rintro e w1 ⟨rfl,b1⟩;have B1:=d9 b1;(obtain ⟨y0,y1,y2,y3,y4,y5⟩:=of6 ((b1.block _ hlt0).trans (uh X8)));have q9:=(b1.block _ hlt).trans (uh X9);(obtain ⟨z0,z1,z2,z3,z4,z5⟩:=of6 q9);have zf:=fun o=>gy (o:=o) q9;clear b1 q9)
  | (go_at_call 59;refine (Ed attr lo hi hc _).mono ?_;rintro e w2 ⟨rfl,b2⟩;have B2:=d9 (d8 (uh B1) b2);clear b2 y0 y1 y2 y3 y4 y5 z0 z1 z2 z3 z4 z5 zf;(obtain ⟨y0,y1,y2,y3,y4,y5⟩:=of6 (((uh B2).block _ hlt0).trans (uh X8)));have q9:=((uh B2).block _ hlt).trans (uh X9);(obtain ⟨z0,z1,z2,z3,z4,z5⟩:=of6 q9);have zf:=fun o=>gy (o:=o) q9;clear q9))
 exact bodyPost_ret (v:=.tuple #[.agg #[.int .i64 0,.string ⟨#[]⟩,.slice none 0 0,.slice none 0 0,.int .i64 0,.int .i64 0],.bool false]) (by simp [results,Tryz.results16,go_sem, *]) rfl ⟨rfl,((((((d8 (uh BX) (uh B2)).setCell (p:=⟨w.heap.size + 1,0,none⟩) (Nat.le_succ _) _).setCell (p:=⟨w.heap.size + 1,1,none⟩) (Nat.le_succ _) _).setCell (p:=⟨w.heap.size + 1,2,none⟩) (Nat.le_succ _) _).setCell (p:=⟨w.heap.size + 1,3,none⟩) (Nat.le_succ _) _).setCell (p:=⟨w.heap.size + 1,4,none⟩) (Nat.le_succ _) _).setCell (p:=⟨w.heap.size + 1,5,none⟩) (Nat.le_succ _) _⟩
set_option maxRecDepth 100000 in
theorem D3 (attr:ByteArray) (qi:Option Addr) (ci:Nat) (ints:List Int) (qw:Option Addr) (cw:Nat) (words:List ByteArray) (lo hi:Int) (w:World) (h1:SlOf jq 1 w qi ci ints) (h2:SlOf jy 1 w qw cw words) (l1:ints.length<=1000000000000000000) (l2:words.length<=1000000000000000000) (hp:kg 3 attr ints words lo hi=true) (hc:lo < hi) :
  Calls Tryz.prog 16 #[.agg #[.int .i64 3,.string attr,.slice qi ints.length ci,.slice qw words.length cw,.int .i64 lo,.int .i64 hi]] w fun e w'=>e=.returned (.tuple #[.agg #[.int .i64 3,.string attr,.slice none 0 0,.slice none 0 0,.int .i64 lo,.int .i64 hi],.bool true])/\Below w.heap.size w w':=by
 obtain ⟨X,HX⟩:∃ X,(w.alloc (.cells #[.int .i64 3,.string attr,.slice qi ints.length ci,.slice qw words.length cw,.int .i64 lo,.int .i64 hi] 26)).alloc (.cells #[.int .i64 0,.string ⟨#[]⟩,.slice none 0 0,.slice none 0 0,.int .i64 0,.int .i64 0] 26)=X:=⟨_,rfl⟩
 have bX:Below w.heap.size w X:=by rw [<- HX];exact ((Below.refl _ _).alloc (Nat.le_refl _) _).alloc (by simp) _
 have x9:X.heap[w.heap.size + 1]? = some (.cells #[.int .i64 0,.string ⟨#[]⟩,.slice none 0 0,.slice none 0 0,.int .i64 0,.int .i64 0] 26 (0,0)):=by
  have:=World.alloc_heap_new (w.alloc (.cells #[.int .i64 3,.string attr,.slice qi ints.length ci,.slice qw words.length cw,.int .i64 lo,.int .i64 hi] 26)) (.cells #[.int .i64 0,.string ⟨#[]⟩,.slice none 0 0,.slice none 0 0,.int .i64 0,.int .i64 0] 26)
  rw [World.size_alloc] at this
  rw [<- HX];exact this
 have x8:X.heap[w.heap.size]? = some (.cells #[.int .i64 3,.string attr,.slice qi ints.length ci,.slice qw words.length cw,.int .i64 lo,.int .i64 hi] 26 (0,0)):=by
  rw [<- HX]
  exact (((Below.refl _ _).alloc (Nat.le_refl _) _).block w.heap.size (by simp)).trans (World.alloc_heap_new _ _)
 have hlt:w.heap.size + 1 < X.heap.size:=by rw [<- HX];simp
 have hlt0:w.heap.size < X.heap.size:=by omega
 obtain ⟨x0,x1,x2,x3,x4,x5⟩:=of6 x8
 obtain ⟨v0,v1,v2,v3,v4,v5⟩:=of6 x9
 have xf:=fun o=>gy (o:=o) x9
 have hP:=fun (W:World) (hW:Below w.heap.size w W)=>kw 3 attr qi ci ints qw cw words lo hi W (h1.below hW) (h2.below hW) l1 l2
 rw [hp] at hP
 simp only [py,if_true] at hP
 have H1:=d9 h1
 have H2:=d9 h2
 have X8:=d9 x8
 have X9:=d9 x9
 have BX:=d9 bX
 clear x8 x9 bX h1 h2
 go_enter Tryz.func16,Tryz.ntmps16
 go_wp2_with (first
  | (go_at_call 54;refine (hP _ (uh BX)).mono ?_;rintro e w1 ⟨rfl,b1⟩;have B1:=d9 b1;(obtain ⟨y0,y1,y2,y3,y4,y5⟩:=of6 ((b1.block _ hlt0).trans (uh X8)));have q9:=(b1.block _ hlt).trans (uh X9);(obtain ⟨z0,z1,z2,z3,z4,z5⟩:=of6 q9);have zf:=fun o=>gy (o:=o) q9;clear b1 q9)
  | (go_at_call 59;refine (Gl attr lo hi hc _).mono ?_;rintro e w2 ⟨rfl,b2⟩;have B2:=d9 (d8 (uh B1) b2);clear b2 y0 y1 y2 y3 y4 y5 z0 z1 z2 z3 z4 z5 zf;(obtain ⟨y0,y1,y2,y3,y4,y5⟩:=of6 (((uh B2).block _ hlt0).trans (uh X8)));have q9:=((uh B2).block _ hlt).trans (uh X9);(obtain ⟨z0,z1,z2,z3,z4,z5⟩:=of6 q9);have zf:=fun o=>gy (o:=o) q9;clear q9))
 exact bodyPost_ret (v:=.tuple #[.agg #[.int .i64 3,.string attr,.slice none 0 0,.slice none 0 0,.int .i64 lo,.int .i64 hi],.bool true]) (by simp [results,Tryz.results16,go_sem, *]) rfl ⟨rfl,((((((d8 (uh BX) (uh B2)).setCell (p:=⟨w.heap.size + 1,0,none⟩) (Nat.le_succ _) _).setCell (p:=⟨w.heap.size + 1,1,none⟩) (Nat.le_succ _) _).setCell (p:=⟨w.heap.size + 1,2,none⟩) (Nat.le_succ _) _).setCell (p:=⟨w.heap.size + 1,3,none⟩) (Nat.le_succ _) _).setCell (p:=⟨w.heap.size + 1,4,none⟩) (Nat.le_succ _) _).setCell (p:=⟨w.heap.size + 1,5,none⟩) (Nat.le_succ _) _⟩
end Go.Proofs.YtimklglliffpcaaGreat

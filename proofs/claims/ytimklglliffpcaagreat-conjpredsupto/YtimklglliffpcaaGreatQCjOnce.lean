/- What conj.Normal answers may be written. -/
import Derived.Test.YtimklglliffpcaaGreatQNorm2
namespace Go.Proofs.YtimklglliffpcaaGreat
open Go.RowKit Go.Sort Go.Shelf
/-- The first n cells of a row may be written. -/
def Wr (w:World) (q:Option Addr) (n:Nat):Prop:=∀ b off,q=some ⟨b,off,none⟩->∀ j,j < n->off=0/\w.frozen? ⟨b,off + j,none⟩=false
theorem Wr.nil (w:World) (q:Option Addr):Wr w q 0:=fun _ _ _ j hj=>absurd hj (by omega)
theorem Gg {w w':World} {b:Nat} (h:w'.heap[b]? = w.heap[b]?) (o:Nat):w'.frozen? ⟨b,o,none⟩=w.frozen? ⟨b,o,none⟩:=by
 unfold World.frozen?
 simp [h]
theorem Wr.below {α:Type} [Inhabited α] {enc:α->List Value} {k c:Nat} {w w':World} {q:Option Addr} {l:List α} (h:Wr w q l.length) (hs:SlOf enc k w q c l) (hb:Below w.heap.size w w'):Wr w' q l.length:=fun b off e j hj=>by
 obtain ⟨b',off',hq,hbb,_⟩:=hs.2.2.2 (by omega)
 rw [hq] at e
 cases e
 rw [Gg (hb.block _ hbb)]
 exact h _ _ hq j hj
theorem Wr.set {w:World} {q:Option Addr} {n:Nat} (h:Wr w q n) (b k:Nat) (v:Value):Wr (w.setCell ⟨b,k,none⟩ v) q n:=fun b' off e j hj=>by
 rw [show (w.setCell ⟨b,k,none⟩ v).frozen? ⟨b',off + j,none⟩=w.frozen? ⟨b',off + j,none⟩ by go_simp]
 exact h b' off e j hj
theorem zaj (g cap:Nat) (l:List Int) (w:World) (hH:Holds (Value.int .i64) w g 0 (l.mergeSort fun x y=>decide (x<=y)).toArray) (hg:g < w.heap.size) (hc:l.length<=cap) (hm:cap<=maxLen) :
  Calls Tryz.prog 116 #[.slice (some ⟨g,0,none⟩) l.length cap] w fun e w'=>e=.returned (.slice (some ⟨g,0,none⟩) (mx l).length cap)/\SlOf jq 1 w' (some ⟨g,0,none⟩) cap (mx l)/\Below g w w'/\Wr w' (some ⟨g,0,none⟩) (mx l).length:=by
 have hp:(l.mergeSort fun x y=>decide (x<=y)).Perm l:=List.mergeSort_perm _ _
 have hlen:(l.mergeSort fun x y=>decide (x<=y)).length=l.length:=by rw [hp.length_eq]
 have hcon:=Any.slices_Compact_int Tryz.cptI g 0 cap (l.mergeSort fun x y=>decide (x<=y)) w hH (by unfold maxLen at hm;omega) (by omega)
 change Calls Tryz.prog 116 _ _ _ at hcon
 rw [hlen] at hcon
 have hle:=yh (l.mergeSort fun x y=>decide (x<=y))
 refine hcon.mono fun e w' ⟨he,q,hw⟩=>⟨he, ?_, ?_, ?_⟩
 ·rw [hw]
  refine slI_of_holds (by simpa [putRow,mapBlock,Sort.ahead] using hg) (by unfold mx;omega) hm (m:=List.replicate (l.length - (Lib.compact (l.mergeSort fun x y=>decide (x<=y))).length) (0:Int)) ?_
  exact holds_putRow (Value.int .i64) _ _ _ (l.mergeSort fun x y=>decide (x<=y)).toArray _ (holds_ahead _ _ _ _ _ _ hH) (by simp;omega)
 ·rw [hw];exact A2 w g q _
 ·rw [hw]
  intro b off e j hj
  cases e
  exact ⟨rfl,(holds_putRow (Value.int .i64) _ _ _ (l.mergeSort fun x y=>decide (x<=y)).toArray _ (holds_ahead _ _ _ _ _ _ hH) (by simp;omega) j (by unfold mx at hj;simp;omega)).2⟩
set_option maxRecDepth 100000 in
/-- conj.eachOnce. -/
theorem Pu (q:Option Addr) (c:Nat) (l:List Int) (w:World) (hs:SlOf jq 1 w q c l) (hz:l.length * 8<=140737488355328) :
  Calls Tryz.prog 56 #[.slice q l.length c] w fun e w'=>(∃ q' c',e=.returned (.slice q' (mx l).length c')/\SlOf jq 1 w' q' c' (mx l)/\(∀ a,q'=some a->w.heap.size<=a.block)/\Wr w' q' (mx l).length)/\Below w.heap.size w w':=by
 have hA:=(Below.refl w.heap.size w).alloc (Nat.le_refl _) (.cells #[.slice q l.length c] 23)
 have hS:=Qa w.heap.size q c l hz (w.alloc (.cells #[.slice q l.length c] 23)) (by simp) (Boxed.new w 23 _).cell (hs.below hA)
 have hp:(l.mergeSort fun x y=>decide (x<=y)).Perm l:=List.mergeSort_perm _ _
 by_cases h0:l=[]
 ·subst h0
  have hcon:=fun q c w=>Any.slices_Compact_int_empty Tryz.cptI q c w
  change ∀ q c w,Calls Tryz.prog 116 #[.slice q 0 c] w _ at hcon
  have e0:mx []=[]:=by simp [mx,Lib.compact,Lib.compactUpTo]
  clear hs hp
  go_enter Tryz.func56,Tryz.ntmps56
  go_wp2_with (first
   | (go_at_call 118;refine (Lp q 0 c w).mono ?_;rintro e w1 ⟨rfl,rfl⟩)
   | (go_at_call 117;refine hS.mono ?_;rintro e w2 ⟨⟨q2,c2,rfl,h2⟩,b2⟩;have B2:=d9 b2;have H2:=d9 h2;clear b2 h2)
   | (go_at_call 116;refine (hcon q2 c2 w2).mono ?_;rintro e w3 ⟨rfl,hw3⟩;obtain rfl:=hw3.symm;clear hw3))
  go_ret
  refine ⟨⟨q2,c2,by rw [e0];rfl, ?_⟩,d8 hA (uh B2)⟩
  rw [e0]
  rcases uh H2 with h2 | ⟨g,rfl,hg1,hg2,hg3,hg4,_⟩
  ·exact ⟨h2.2.1,fun a e=>Nat.le_trans hA.size (h2.2.2 a e),Wr.nil _ _⟩
  ·exact ⟨⟨(fun h=>by cases h),Nat.zero_le _,hg4,LsOf.nil _ _⟩,fun a e=>by cases e;exact Nat.le_trans hA.size hg1,Wr.nil _ _⟩
 ·clear hs
  go_enter Tryz.func56,Tryz.ntmps56
  go_wp2_with (first
   | (go_at_call 118;refine (Lp q l.length c w).mono ?_;rintro e w1 ⟨rfl,rfl⟩)
   | (go_at_call 117;refine hS.mono ?_;rintro e w2 ⟨⟨q2,c2,rfl,h2⟩,b2⟩;have B2:=d9 b2;rcases h2 with h2 | ⟨g,rfl,hg1,hg2,hg3,hg4,hg5⟩;exact absurd h2.1 h0;have HH:=d9 hg5;clear b2 hg5)
   | (go_at_call 116;refine (zaj g c2 l _ (uh HH) hg2 hg3 hg4).mono ?_;rintro e w3 ⟨rfl,s3,b3,r3⟩;have S3:=d9 s3;have R3:=d9 r3;have B3:=d9 (b3.mono hg1);clear s3 b3 r3))
  go_ret
  exact ⟨⟨_,_,rfl,uh S3,fun a e=>by cases e;exact Nat.le_trans hA.size hg1,uh R3⟩,hA.trans (((uh B2).trans (uh B3)).mono hA.size)⟩
set_option maxRecDepth 100000 in
set_option maxHeartbeats 1000000 in
theorem Ep (attr:ByteArray) (qi:Option Addr) (ci:Nat) (ints:List Int) (qw:Option Addr) (cw:Nat) (words:List ByteArray) (lo hi:Int) (w:World) (h1:SlOf jq 1 w qi ci ints) (h2:SlOf jy 1 w qw cw words) (l1:ints.length<=1000000000000000000) (l2:words.length<=1000000000000000000) (hp:kg 1 attr ints words lo hi=true) :
  Calls Tryz.prog 16 #[.agg #[.int .i64 1,.string attr,.slice qi ints.length ci,.slice qw words.length cw,.int .i64 lo,.int .i64 hi]] w fun e w'=>(∃ q c,e=.returned (.tuple #[.agg #[.int .i64 1,.string attr,.slice q (mx ints).length c,.slice none 0 0,.int .i64 0,.int .i64 0],.bool true])/\SlOf jq 1 w' q c (mx ints)/\(∀ a,q=some a->w.heap.size<=a.block)/\Wr w' q (mx ints).length)/\Below w.heap.size w w':=by
 have hf:=hp
 unfold kg p9 at hf
 simp at hf
 have hlen:1<=ints.length/\ints.length<=64:=by omega
 have hpos:0 < (mx ints).length:=by
  obtain ⟨x,hx⟩:=List.exists_mem_of_length_pos (l:=ints) (by omega)
  exact List.length_pos_of_mem (((nh ints).1 x).2 hx)
 clear hf
 obtain ⟨X,HX⟩:∃ X,(w.alloc (.cells #[.int .i64 1,.string attr,.slice qi ints.length ci,.slice qw words.length cw,.int .i64 lo,.int .i64 hi] 26)).alloc (.cells #[.int .i64 0,.string ⟨#[]⟩,.slice none 0 0,.slice none 0 0,.int .i64 0,.int .i64 0] 26)=X:=⟨_,rfl⟩
 have bX:Below w.heap.size w X:=by rw [<- HX];exact ((Below.refl _ _).alloc (Nat.le_refl _) _).alloc (by simp) _
 have x9:X.heap[w.heap.size + 1]? = some (.cells #[.int .i64 0,.string ⟨#[]⟩,.slice none 0 0,.slice none 0 0,.int .i64 0,.int .i64 0] 26 (0,0)):=by
  have:=World.alloc_heap_new (w.alloc (.cells #[.int .i64 1,.string attr,.slice qi ints.length ci,.slice qw words.length cw,.int .i64 lo,.int .i64 hi] 26)) (.cells #[.int .i64 0,.string ⟨#[]⟩,.slice none 0 0,.slice none 0 0,.int .i64 0,.int .i64 0] 26)
  rw [World.size_alloc] at this
  rw [<- HX];exact this
 have x8:X.heap[w.heap.size]? = some (.cells #[.int .i64 1,.string attr,.slice qi ints.length ci,.slice qw words.length cw,.int .i64 lo,.int .i64 hi] 26 (0,0)):=by
  rw [<- HX]
  exact (((Below.refl _ _).alloc (Nat.le_refl _) _).block w.heap.size (by simp)).trans (World.alloc_heap_new _ _)
 have hlt:w.heap.size + 1 < X.heap.size:=by rw [<- HX];simp
 have hlt0:w.heap.size < X.heap.size:=by omega
 obtain ⟨x0,x1,x2,x3,x4,x5⟩:=of6 x8
 obtain ⟨v0,v1,v2,v3,v4,v5⟩:=of6 x9
 have xf:=fun o=>gy (o:=o) x9
 have hP:=fun (W:World) (hW:Below w.heap.size w W)=>kw 1 attr qi ci ints qw cw words lo hi W (h1.below hW) (h2.below hW) l1 l2
 rw [hp] at hP
 simp only [py,if_true] at hP
 have H1:=d9 h1
 have H2:=d9 h2
 have X8:=d9 x8
 have X9:=d9 x9
 have BX:=d9 bX
 clear x8 x9 bX h1 h2
 have hO:=fun (W:World) (hW:Below w.heap.size w W)=>Pu qi ci ints W ((uh H1).below hW) (by omega)
 obtain ⟨M,hM⟩:∃ M,mx ints=M:=⟨_,rfl⟩
 rw [hM] at hpos ⊢
 simp only [hM] at hO
 clear hM
 go_enter Tryz.func16,Tryz.ntmps16
 go_wp2_with (go_at_call 54;refine (hP _ (uh BX)).mono ?_;rintro e w1 ⟨rfl,b1⟩;have B1:=d9 b1;(obtain ⟨y0,y1,y2,y3,y4,y5⟩:=of6 ((b1.block _ hlt0).trans (uh X8)));have q9:=(b1.block _ hlt).trans (uh X9);(obtain ⟨z0,z1,z2,z3,z4,z5⟩:=of6 q9);have zf:=fun o=>gy (o:=o) q9;clear b1 q9)
 go_region_with (first
  | (go_at_call 56;refine (hO _ (by first | exact (d8 (uh BX) (uh B1)).drew | exact d8 (uh BX) (uh B1))).mono ?_;rintro e w2 ⟨⟨q2,c2,rfl,s2,p2,r2⟩,b2⟩;have S2:=d9 s2;have R2:=d9 r2;have b2':Below w1.heap.size w1 w2:=(by first | exact b2 | exact jd b2);have B2:=d9 (d8 (uh B1) b2');have L2:Hid (∀ a,q2=some a->w.heap.size + 1 < a.block):=d9 (fun a e=>by (have h1:w1.heap.size<=a.block:=p2 a e);(have h2:=(uh B1).size);omega);clear b2';clear s2 p2 r2 b2 y0 y1 y2 y3 y4 y5 z0 z1 z2 z3 z4 z5 zf;(obtain ⟨y0,y1,y2,y3,y4,y5⟩:=of6 (((uh B2).block _ hlt0).trans (uh X8)));have q9:=((uh B2).block _ hlt).trans (uh X9);(obtain ⟨z0,z1,z2,z3,z4,z5⟩:=of6 q9);have zf:=fun o=>gy (o:=o) q9;clear q9)
  | (go_at_call 55;refine (M4 attr q2 M.length c2 hpos _).mono ?_;rintro e w3 ⟨rfl,b3⟩;have b3':Below w2.heap.size w2 w3:=(by first | exact b3 | exact jd b3);have S3:=d9 ((uh S2).below b3');have R3:=d9 ((uh R2).below (uh S2) b3');have B3:=d9 (d8 (uh B2) b3');clear b3';clear b3 y0 y1 y2 y3 y4 y5 z0 z1 z2 z3 z4 z5 zf;(obtain ⟨y0,y1,y2,y3,y4,y5⟩:=of6 (((uh B3).block _ hlt0).trans (uh X8)));have q9:=((uh B3).block _ hlt).trans (uh X9);(obtain ⟨z0,z1,z2,z3,z4,z5⟩:=of6 q9);have zf:=fun o=>gy (o:=o) q9;clear q9))
 all_goals
  go_wp2
  exact bodyPost_ret (v:=.tuple #[.agg #[.int .i64 1,.string attr,.slice q2 M.length c2,.slice none 0 0,.int .i64 0,.int .i64 0],.bool true]) (by simp [results,Tryz.results16,go_sem, *]) rfl ⟨⟨q2,c2,rfl,((((((uh S3).set (fun a e=>by have:=uh L2 a e;omega) 0 _).set (fun a e=>by have:=uh L2 a e;omega) 1 _).set (fun a e=>by have:=uh L2 a e;omega) 2 _).set (fun a e=>by have:=uh L2 a e;omega) 3 _).set (fun a e=>by have:=uh L2 a e;omega) 4 _).set (fun a e=>by have:=uh L2 a e;omega) 5 _,(fun a e=>by have:=uh L2 a e;omega),(((((((uh R3).set _ 0 _).set _ 1 _).set _ 2 _).set _ 3 _).set _ 4 _).set _ 5 _)⟩,((((((d8 (uh BX) (uh B3)).setCell (p:=⟨w.heap.size + 1,0,none⟩) (Nat.le_succ _) _).setCell (p:=⟨w.heap.size + 1,1,none⟩) (Nat.le_succ _) _).setCell (p:=⟨w.heap.size + 1,2,none⟩) (Nat.le_succ _) _).setCell (p:=⟨w.heap.size + 1,3,none⟩) (Nat.le_succ _) _).setCell (p:=⟨w.heap.size + 1,4,none⟩) (Nat.le_succ _) _).setCell (p:=⟨w.heap.size + 1,5,none⟩) (Nat.le_succ _) _⟩
theorem zbk (g cap:Nat) (l:List ByteArray) (w:World) (hH:Holds encStr w g 0 ((l.map (·.data.toList)).mergeSort fun x y=>decide (x<=y)).toArray) (hg:g < w.heap.size) (hc:l.length<=cap) (hm:cap<=maxLen) :
  Calls Tryz.prog 119 #[.slice (some ⟨g,0,none⟩) l.length cap] w fun e w'=>e=.returned (.slice (some ⟨g,0,none⟩) (mq l).length cap)/\SlOf jy 1 w' (some ⟨g,0,none⟩) cap (mq l)/\Below g w w'/\Wr w' (some ⟨g,0,none⟩) (mq l).length:=by
 have hp:((l.map (·.data.toList)).mergeSort fun x y=>decide (x<=y)).Perm (l.map (·.data.toList)):=List.mergeSort_perm _ _
 have hlen:((l.map (·.data.toList)).mergeSort fun x y=>decide (x<=y)).length=l.length:=by rw [hp.length_eq];simp
 have hcon:=Any.slices_Compact_string Tryz.cptS g 0 cap ((l.map (·.data.toList)).mergeSort fun x y=>decide (x<=y)) w hH (by unfold maxLen at hm;omega) (by omega)
 change Calls Tryz.prog 119 _ _ _ at hcon
 rw [hlen] at hcon
 have hle:=yh ((l.map (·.data.toList)).mergeSort fun x y=>decide (x<=y))
 refine hcon.mono fun e w' ⟨he,q,hw⟩=>⟨by rw [he];unfold mq;rw [List.length_map], ?_, ?_, ?_⟩
 ·rw [hw]
  refine slS_of_holds (by simpa [putRow,mapBlock,Sort.ahead] using hg) (by unfold mq;rw [List.length_map];omega) hm (m:=List.replicate (l.length - (Lib.compact ((l.map (·.data.toList)).mergeSort fun x y=>decide (x<=y))).length) ⟨#[]⟩) ?_
  rw [List.map_append,Ra,List.map_replicate]
  exact holds_putRow encStr _ _ _ ((l.map (·.data.toList)).mergeSort fun x y=>decide (x<=y)).toArray _ (holds_ahead _ _ _ _ _ _ hH) (by simp;omega)
 ·rw [hw];exact A2 w g q _
 ·rw [hw]
  intro b off e j hj
  cases e
  exact ⟨rfl,(holds_putRow encStr _ _ _ ((l.map (·.data.toList)).mergeSort fun x y=>decide (x<=y)).toArray _ (holds_ahead _ _ _ _ _ _ hH) (by simp;omega) j (by unfold mq at hj;rw [List.length_map] at hj;simp;omega)).2⟩
set_option maxRecDepth 100000 in
/-- conj.eachOnce. -/
theorem Pp (q:Option Addr) (c:Nat) (l:List ByteArray) (w:World) (hs:SlOf jy 1 w q c l) (hz:l.length * 16<=140737488355328) :
  Calls Tryz.prog 58 #[.slice q l.length c] w fun e w'=>(∃ q' c',e=.returned (.slice q' (mq l).length c')/\SlOf jy 1 w' q' c' (mq l)/\(∀ a,q'=some a->w.heap.size<=a.block)/\Wr w' q' (mq l).length)/\Below w.heap.size w w':=by
 have hA:=(Below.refl w.heap.size w).alloc (Nat.le_refl _) (.cells #[.slice q l.length c] 24)
 have hS:=Pb w.heap.size q c l hz (w.alloc (.cells #[.slice q l.length c] 24)) (by simp) (Boxed.new w 24 _).cell (hs.below hA)
 have hp:((l.map (·.data.toList)).mergeSort fun x y=>decide (x<=y)).Perm (l.map (·.data.toList)):=List.mergeSort_perm _ _
 by_cases h0:l=[]
 ·subst h0
  have hcon:=fun q c w=>Any.slices_Compact_string_empty Tryz.cptS q c w
  change ∀ q c w,Calls Tryz.prog 119 #[.slice q 0 c] w _ at hcon
  have e0:mq []=[]:=by simp [mq,Lib.compact,Lib.compactUpTo]
  clear hs hp
  go_enter Tryz.func58,Tryz.ntmps58
  go_wp2_with (first
   | (go_at_call 121;refine (N4 q 0 c w).mono ?_;rintro e w1 ⟨rfl,rfl⟩)
   | (go_at_call 120;refine hS.mono ?_;rintro e w2 ⟨⟨q2,c2,rfl,h2⟩,b2⟩;have B2:=d9 b2;have H2:=d9 h2;clear b2 h2)
   | (go_at_call 119;refine (hcon q2 c2 w2).mono ?_;rintro e w3 ⟨rfl,hw3⟩;obtain rfl:=hw3.symm;clear hw3))
  go_ret
  refine ⟨⟨q2,c2,by rw [e0];rfl, ?_⟩,d8 hA (uh B2)⟩
  rw [e0]
  rcases uh H2 with h2 | ⟨g,rfl,hg1,hg2,hg3,hg4,_⟩
  ·exact ⟨h2.2.1,fun a e=>Nat.le_trans hA.size (h2.2.2 a e),Wr.nil _ _⟩
  ·exact ⟨⟨(fun h=>by cases h),Nat.zero_le _,hg4,LsOf.nil _ _⟩,fun a e=>by cases e;exact Nat.le_trans hA.size hg1,Wr.nil _ _⟩
 ·clear hs
  go_enter Tryz.func58,Tryz.ntmps58
  go_wp2_with (first
   | (go_at_call 121;refine (N4 q l.length c w).mono ?_;rintro e w1 ⟨rfl,rfl⟩)
   | (go_at_call 120;refine hS.mono ?_;rintro e w2 ⟨⟨q2,c2,rfl,h2⟩,b2⟩;have B2:=d9 b2;rcases h2 with h2 | ⟨g,rfl,hg1,hg2,hg3,hg4,hg5⟩;exact absurd h2.1 h0;have HH:=d9 hg5;clear b2 hg5)
   | (go_at_call 119;refine (zbk g c2 l _ (uh HH) hg2 hg3 hg4).mono ?_;rintro e w3 ⟨rfl,s3,b3,r3⟩;have S3:=d9 s3;have R3:=d9 r3;have B3:=d9 (b3.mono hg1);clear s3 b3 r3))
  go_ret
  exact ⟨⟨_,_,rfl,uh S3,fun a e=>by cases e;exact Nat.le_trans hA.size hg1,uh R3⟩,hA.trans (((uh B2).trans (uh B3)).mono hA.size)⟩
set_option maxRecDepth 100000 in
set_option maxHeartbeats 1000000 in
theorem Dw (attr:ByteArray) (qi:Option Addr) (ci:Nat) (ints:List Int) (qw:Option Addr) (cw:Nat) (words:List ByteArray) (lo hi:Int) (w:World) (h1:SlOf jq 1 w qi ci ints) (h2:SlOf jy 1 w qw cw words) (l1:ints.length<=1000000000000000000) (l2:words.length<=1000000000000000000) (hp:kg 2 attr ints words lo hi=true) :
  Calls Tryz.prog 16 #[.agg #[.int .i64 2,.string attr,.slice qi ints.length ci,.slice qw words.length cw,.int .i64 lo,.int .i64 hi]] w fun e w'=>(∃ q c,e=.returned (.tuple #[.agg #[.int .i64 2,.string attr,.slice none 0 0,.slice q (mq words).length c,.int .i64 0,.int .i64 0],.bool true])/\SlOf jy 1 w' q c (mq words)/\(∀ a,q=some a->w.heap.size<=a.block)/\Wr w' q (mq words).length)/\Below w.heap.size w w':=by
 have hf:=hp
 unfold kg p9 at hf
 simp at hf
 have hlen:1<=words.length/\words.length<=64:=by omega
 have hpos:0 < (mq words).length:=by
  obtain ⟨x,hx⟩:=List.exists_mem_of_length_pos (l:=words) (by omega)
  exact List.length_pos_of_mem (((mj words).1 x).2 hx)
 clear hf
 obtain ⟨X,HX⟩:∃ X,(w.alloc (.cells #[.int .i64 2,.string attr,.slice qi ints.length ci,.slice qw words.length cw,.int .i64 lo,.int .i64 hi] 26)).alloc (.cells #[.int .i64 0,.string ⟨#[]⟩,.slice none 0 0,.slice none 0 0,.int .i64 0,.int .i64 0] 26)=X:=⟨_,rfl⟩
 have bX:Below w.heap.size w X:=by rw [<- HX];exact ((Below.refl _ _).alloc (Nat.le_refl _) _).alloc (by simp) _
 have x9:X.heap[w.heap.size + 1]? = some (.cells #[.int .i64 0,.string ⟨#[]⟩,.slice none 0 0,.slice none 0 0,.int .i64 0,.int .i64 0] 26 (0,0)):=by
  have:=World.alloc_heap_new (w.alloc (.cells #[.int .i64 2,.string attr,.slice qi ints.length ci,.slice qw words.length cw,.int .i64 lo,.int .i64 hi] 26)) (.cells #[.int .i64 0,.string ⟨#[]⟩,.slice none 0 0,.slice none 0 0,.int .i64 0,.int .i64 0] 26)
  rw [World.size_alloc] at this
  rw [<- HX];exact this
 have x8:X.heap[w.heap.size]? = some (.cells #[.int .i64 2,.string attr,.slice qi ints.length ci,.slice qw words.length cw,.int .i64 lo,.int .i64 hi] 26 (0,0)):=by
  rw [<- HX]
  exact (((Below.refl _ _).alloc (Nat.le_refl _) _).block w.heap.size (by simp)).trans (World.alloc_heap_new _ _)
 have hlt:w.heap.size + 1 < X.heap.size:=by rw [<- HX];simp
 have hlt0:w.heap.size < X.heap.size:=by omega
 obtain ⟨x0,x1,x2,x3,x4,x5⟩:=of6 x8
 obtain ⟨v0,v1,v2,v3,v4,v5⟩:=of6 x9
 have xf:=fun o=>gy (o:=o) x9
 have hP:=fun (W:World) (hW:Below w.heap.size w W)=>kw 2 attr qi ci ints qw cw words lo hi W (h1.below hW) (h2.below hW) l1 l2
 rw [hp] at hP
 simp only [py,if_true] at hP
 have H1:=d9 h1
 have H2:=d9 h2
 have X8:=d9 x8
 have X9:=d9 x9
 have BX:=d9 bX
 clear x8 x9 bX h1 h2
 have hO:=fun (W:World) (hW:Below w.heap.size w W)=>Pp qw cw words W ((uh H2).below hW) (by omega)
 obtain ⟨M,hM⟩:∃ M,mq words=M:=⟨_,rfl⟩
 rw [hM] at hpos ⊢
 simp only [hM] at hO
 clear hM
 go_enter Tryz.func16,Tryz.ntmps16
 go_wp2_with (go_at_call 54;refine (hP _ (uh BX)).mono ?_;rintro e w1 ⟨rfl,b1⟩;have B1:=d9 b1;(obtain ⟨y0,y1,y2,y3,y4,y5⟩:=of6 ((b1.block _ hlt0).trans (uh X8)));have q9:=(b1.block _ hlt).trans (uh X9);(obtain ⟨z0,z1,z2,z3,z4,z5⟩:=of6 q9);have zf:=fun o=>gy (o:=o) q9;clear b1 q9)
 go_region_with (first
  | (go_at_call 58;refine (hO _ (by first | exact (d8 (uh BX) (uh B1)).drew | exact d8 (uh BX) (uh B1))).mono ?_;rintro e w2 ⟨⟨q2,c2,rfl,s2,p2,r2⟩,b2⟩;have S2:=d9 s2;have R2:=d9 r2;have b2':Below w1.heap.size w1 w2:=(by first | exact b2 | exact jd b2);have B2:=d9 (d8 (uh B1) b2');have L2:Hid (∀ a,q2=some a->w.heap.size + 1 < a.block):=d9 (fun a e=>by (have h1:w1.heap.size<=a.block:=p2 a e);(have h2:=(uh B1).size);omega);clear b2';clear s2 p2 r2 b2 y0 y1 y2 y3 y4 y5 z0 z1 z2 z3 z4 z5 zf;(obtain ⟨y0,y1,y2,y3,y4,y5⟩:=of6 (((uh B2).block _ hlt0).trans (uh X8)));have q9:=((uh B2).block _ hlt).trans (uh X9);(obtain ⟨z0,z1,z2,z3,z4,z5⟩:=of6 q9);have zf:=fun o=>gy (o:=o) q9;clear q9)
  | (go_at_call 57;refine (Xc attr q2 M.length c2 hpos _).mono ?_;rintro e w3 ⟨rfl,b3⟩;have b3':Below w2.heap.size w2 w3:=(by first | exact b3 | exact jd b3);have S3:=d9 ((uh S2).below b3');have R3:=d9 ((uh R2).below (uh S2) b3');have B3:=d9 (d8 (uh B2) b3');clear b3';clear b3 y0 y1 y2 y3 y4 y5 z0 z1 z2 z3 z4 z5 zf;(obtain ⟨y0,y1,y2,y3,y4,y5⟩:=of6 (((uh B3).block _ hlt0).trans (uh X8)));have q9:=((uh B3).block _ hlt).trans (uh X9);(obtain ⟨z0,z1,z2,z3,z4,z5⟩:=of6 q9);have zf:=fun o=>gy (o:=o) q9;clear q9))
 all_goals
  go_wp2
  exact bodyPost_ret (v:=.tuple #[.agg #[.int .i64 2,.string attr,.slice none 0 0,.slice q2 M.length c2,.int .i64 0,.int .i64 0],.bool true]) (by simp [results,Tryz.results16,go_sem, *]) rfl ⟨⟨q2,c2,rfl,((((((uh S3).set (fun a e=>by have:=uh L2 a e;omega) 0 _).set (fun a e=>by have:=uh L2 a e;omega) 1 _).set (fun a e=>by have:=uh L2 a e;omega) 2 _).set (fun a e=>by have:=uh L2 a e;omega) 3 _).set (fun a e=>by have:=uh L2 a e;omega) 4 _).set (fun a e=>by have:=uh L2 a e;omega) 5 _,(fun a e=>by have:=uh L2 a e;omega),(((((((uh R3).set _ 0 _).set _ 1 _).set _ 2 _).set _ 3 _).set _ 4 _).set _ 5 _)⟩,((((((d8 (uh BX) (uh B3)).setCell (p:=⟨w.heap.size + 1,0,none⟩) (Nat.le_succ _) _).setCell (p:=⟨w.heap.size + 1,1,none⟩) (Nat.le_succ _) _).setCell (p:=⟨w.heap.size + 1,2,none⟩) (Nat.le_succ _) _).setCell (p:=⟨w.heap.size + 1,3,none⟩) (Nat.le_succ _) _).setCell (p:=⟨w.heap.size + 1,4,none⟩) (Nat.le_succ _) _).setCell (p:=⟨w.heap.size + 1,5,none⟩) (Nat.le_succ _) _⟩
end Go.Proofs.YtimklglliffpcaaGreat

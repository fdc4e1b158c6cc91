/- The reader: a call, but for an event. -/
import Derived.Test.YtdgoibnndfibnaaGreatDoorRS19
namespace Go.Proofs.YtdgoibnndfibnaaGreatDoor
open Go.RowKit Go.Sort
theorem OpS.s41 {w W:World} {g a b:Nat} {Z:Array Value} {v0 v1 v2 v3:Value} {T:TypeId} {R:Bs} (h:OpS w W g a b Z #[v0,v1,v2,v3] T R) (h2:g ≠ b) (h3:a ≠ b) (hw:w.heap.size<=b) (v:Value):OpS w (W.setCell ⟨b,1,none⟩ v) g a b Z #[v0,v,v2,v3] T R:=by
 have:=h.set h2 h3 hw 1 v
 simpa using this
theorem OpS.s42 {w W:World} {g a b:Nat} {Z:Array Value} {v0 v1 v2 v3:Value} {T:TypeId} {R:Bs} (h:OpS w W g a b Z #[v0,v1,v2,v3] T R) (h2:g ≠ b) (h3:a ≠ b) (hw:w.heap.size<=b) (v:Value):OpS w (W.setCell ⟨b,2,none⟩ v) g a b Z #[v0,v1,v,v3] T R:=by
 have:=h.set h2 h3 hw 2 v
 simpa using this
theorem OpS.s43 {w W:World} {g a b:Nat} {Z:Array Value} {v0 v1 v2 v3:Value} {T:TypeId} {R:Bs} (h:OpS w W g a b Z #[v0,v1,v2,v3] T R) (h2:g ≠ b) (h3:a ≠ b) (hw:w.heap.size<=b) (v:Value):OpS w (W.setCell ⟨b,3,none⟩ v) g a b Z #[v0,v1,v2,v] T R:=by
 have:=h.set h2 h3 hw 3 v
 simpa using this
set_option maxHeartbeats 8000000 in
set_option maxRecDepth 100000 in
theorem callRd_1 (w0:World) (_:G w0) (g:Nat) (L:Bs) (w:World) (hw:Below w0.heap.size w0 w) (_:w0.heap.size<=g) (h:Rd w g L) (hz:L.length<=1000000000000) (hk:kindOfW callW 4 (nextW L).1=1) :
  Calls Tryz.prog 102 #[.pointer (some ⟨g,0,none⟩)] w fun e w'=>e=.returned (.agg #[.int .i64 1,.int .i64 0,.string (unqV (nextW (nextW L).2).1),.slice none 0 0])/\RdS w g (nextW (nextW L).2).2 w':=by
 have mixed:Tryz.prog.follows .mixedOrders=true:=by kernel_rfl
 obtain ⟨X,HX⟩:∃ X,w.alloc (.cells #[.int .i64 0,.int .i64 0,.string ⟨#[]⟩,.slice none 0 0] 39)=X:=⟨_,rfl⟩
 have bX:Below w.heap.size w X:=by rw [<- HX];exact (Below.refl _ _).alloc (Nat.le_refl _) _
 have hX:X.heap[w.heap.size]? = some (.cells #[.int .i64 0,.int .i64 0,.string ⟨#[]⟩,.slice none 0 0] 39 (0,0)):=by rw [<- HX];exact box_new _ _
 have hN:=next_any g L X (h.on bX) (by omega)
 obtain ⟨s,hs⟩:∃ s:ByteArray,(⟨(nextW L).1.toArray⟩:ByteArray)=s:=⟨_,rfl⟩
 have hsL:Lb s=(nextW L).1:=by rw [<- hs,lb_mk]
 rw [hs] at hN
 have hK:=fun W=>kindCall_any s W
 rw [hsL,hk] at hK
 have l1:=nextW_le L
 have l2:=nextW_le (nextW L).2
 have l3:=nextW_le (nextW (nextW L).2).2
 have HN:=hide hN
 have HK:=hide hK
 have HZ:=hide hX
 have HB:=hide bX
 have HW:=hide hw
 have h1:g ≠ w.heap.size:=Nat.ne_of_lt h.lt
 clear hN hK hX bX hw hs hsL h hk
 go_enter Tryz.func102,Tryz.ntmps102
 go_wp2_with (first
  | (go_at_call 70;refine (uh HN).mono ?_;rintro e w1 ⟨rfl,s1⟩;have R1:=hide s1;clear s1)
  | (go_at_call 101;refine (uh HK _).mono ?_;rintro e w4 ⟨rfl,h4⟩;obtain rfl:=h4.symm;obtain ⟨Y,HY⟩:∃ Y,w1.alloc (.cells #[.int .i64 1,.int .i64 0,.string ⟨#[]⟩,.slice none 0 0] 39)=Y:=⟨_,rfl⟩;have bY:Below w1.heap.size w1 Y:=(by rw [<- HY];exact (Below.refl _ _).alloc (Nat.le_refl _) _);have hY:Y.heap[w1.heap.size]? = some (.cells #[.int .i64 1,.int .i64 0,.string ⟨#[]⟩,.slice none 0 0] 39 (0,0)):=(by rw [<- HY];exact box_new _ _);have xw1:w1.heap[w.heap.size]? = some (.cells #[.int .i64 0,.int .i64 0,.string ⟨#[]⟩,.slice none 0 0] 39 (0,0)):=((uh R1).gr.block _ (heap_lt (uh HZ)) (by intro e;injection e with e;exact h1 e.symm)).trans (uh HZ);have h2:g ≠ w1.heap.size:=Nat.ne_of_lt (uh R1).rd.lt;have hzl:w.heap.size < w1.heap.size:=heap_lt xw1;have h3:w.heap.size ≠ w1.heap.size:=Nat.ne_of_lt hzl;have h3':¬ w1.heap.size=w.heap.size:=fun e=>h3 e.symm;have hle:w.heap.size<=w1.heap.size:=Nat.le_of_lt hzl;have P0:=hide (show OpS w Y g w.heap.size w1.heap.size #[.int .i64 0,.int .i64 0,.string ⟨#[]⟩,.slice none 0 0] #[.int .i64 1,.int .i64 0,.string ⟨#[]⟩,.slice none 0 0] 39 (nextW L).2 from ⟨(uh R1).rd.on bY,(gr_of (uh HB) _).trans ((uh R1).gr.trans (gr_of bY _)),blk_onS xw1 bY,hY⟩);obtain ⟨y0,y1,y2,y3⟩:=of4s (uh P0).x5;have yf:∀ o,Y.frozen? ⟨w1.heap.size,o,none⟩=false:=(fun o=>(by unfold World.frozen?;simp [(uh P0).x5]));obtain ⟨z0,z1,z2,z3⟩:=of4s (uh P0).x4;have zf:∀ o,Y.frozen? ⟨w.heap.size,o,none⟩=false:=(fun o=>(by unfold World.frozen?;simp [(uh P0).x4]));have P1:=hide ((((uh P0).s41 h2 h3 hle (.int .i64 0)).s42 h2 h3 hle (.string ⟨#[]⟩)).s43 h2 h3 hle (.slice none 0 0));clear bY hY xw1 P0)
  | (go_at_call 126;refine (text_any2 g (nextW L).2 _ (uh P1).rd (by omega)).mono ?_;rintro e w5 ⟨rfl,hs⟩;have P5:=hide ((uh P1).step hs h1 h2);clear hs;clear y0 y1 y2 y3 yf z0 z1 z2 z3 zf;obtain ⟨y0,y1,y2,y3⟩:=of4s (uh P5).x5;have yf:∀ o,w5.frozen? ⟨w1.heap.size,o,none⟩=false:=(fun o=>(by unfold World.frozen?;simp [(uh P5).x5]));obtain ⟨z0,z1,z2,z3⟩:=of4s (uh P5).x4;have zf:∀ o,w5.frozen? ⟨w.heap.size,o,none⟩=false:=(fun o=>(by unfold World.frozen?;simp [(uh P5).x4]))))
 have P6:=hide ((uh P5).s42 h2 h3 hle (.string (unqV (nextW (nextW L).2).1)))
 refine bodyPost_ret (v:=.agg #[.int .i64 1,.int .i64 0,.string (unqV (nextW (nextW L).2).1),.slice none 0 0]) (by simp [results,Tryz.results102,go_sem,z0,z1,z2,z3]) rfl ⟨rfl,⟨((((uh P6).rd.put h1 _ _).put h1 _ _).put h1 _ _).put h1 _ _,gr_put (gr_put (gr_put (gr_put (uh P6).gr (Nat.le_refl _) _ _) (Nat.le_refl _) _ _) (Nat.le_refl _) _ _) (Nat.le_refl _) _ _⟩⟩
set_option maxHeartbeats 8000000 in
set_option maxRecDepth 100000 in
theorem callRd_3 (w0:World) (hG:G w0) (g:Nat) (L:Bs) (w:World) (hw:Below w0.heap.size w0 w) (hg0:w0.heap.size<=g) (h:Rd w g L) (hz:L.length<=1000000000000) (hk:kindOfW callW 4 (nextW L).1=3) :
  Calls Tryz.prog 102 #[.pointer (some ⟨g,0,none⟩)] w fun e w'=>e=.returned (.agg #[.int .i64 3,.int .i64 (numAt (nextW L).2),.string ⟨#[]⟩,.slice none 0 0])/\RdS w g (nextW (nextW L).2).2 w':=by
 have mixed:Tryz.prog.follows .mixedOrders=true:=by kernel_rfl
 obtain ⟨X,HX⟩:∃ X,w.alloc (.cells #[.int .i64 0,.int .i64 0,.string ⟨#[]⟩,.slice none 0 0] 39)=X:=⟨_,rfl⟩
 have bX:Below w.heap.size w X:=by rw [<- HX];exact (Below.refl _ _).alloc (Nat.le_refl _) _
 have hX:X.heap[w.heap.size]? = some (.cells #[.int .i64 0,.int .i64 0,.string ⟨#[]⟩,.slice none 0 0] 39 (0,0)):=by rw [<- HX];exact box_new _ _
 have hN:=next_any g L X (h.on bX) (by omega)
 obtain ⟨s,hs⟩:∃ s:ByteArray,(⟨(nextW L).1.toArray⟩:ByteArray)=s:=⟨_,rfl⟩
 have hsL:Lb s=(nextW L).1:=by rw [<- hs,lb_mk]
 rw [hs] at hN
 have hK:=fun W=>kindCall_any s W
 rw [hsL,hk] at hK
 have l1:=nextW_le L
 have l2:=nextW_le (nextW L).2
 have l3:=nextW_le (nextW (nextW L).2).2
 have HN:=hide hN
 have HK:=hide hK
 have HZ:=hide hX
 have HB:=hide bX
 have HW:=hide hw
 have h1:g ≠ w.heap.size:=Nat.ne_of_lt h.lt
 clear hN hK hX bX hw hs hsL h hk
 go_enter Tryz.func102,Tryz.ntmps102
 go_wp2_with (first
  | (go_at_call 70;refine (uh HN).mono ?_;rintro e w1 ⟨rfl,s1⟩;have R1:=hide s1;clear s1)
  | (go_at_call 101;refine (uh HK _).mono ?_;rintro e w4 ⟨rfl,h4⟩;obtain rfl:=h4.symm;obtain ⟨Y,HY⟩:∃ Y,w1.alloc (.cells #[.int .i64 3,.int .i64 0,.string ⟨#[]⟩,.slice none 0 0] 39)=Y:=⟨_,rfl⟩;have bY:Below w1.heap.size w1 Y:=(by rw [<- HY];exact (Below.refl _ _).alloc (Nat.le_refl _) _);have hY:Y.heap[w1.heap.size]? = some (.cells #[.int .i64 3,.int .i64 0,.string ⟨#[]⟩,.slice none 0 0] 39 (0,0)):=(by rw [<- HY];exact box_new _ _);have xw1:w1.heap[w.heap.size]? = some (.cells #[.int .i64 0,.int .i64 0,.string ⟨#[]⟩,.slice none 0 0] 39 (0,0)):=((uh R1).gr.block _ (heap_lt (uh HZ)) (by intro e;injection e with e;exact h1 e.symm)).trans (uh HZ);have h2:g ≠ w1.heap.size:=Nat.ne_of_lt (uh R1).rd.lt;have hzl:w.heap.size < w1.heap.size:=heap_lt xw1;have h3:w.heap.size ≠ w1.heap.size:=Nat.ne_of_lt hzl;have h3':¬ w1.heap.size=w.heap.size:=fun e=>h3 e.symm;have hle:w.heap.size<=w1.heap.size:=Nat.le_of_lt hzl;have P0:=hide (show OpS w Y g w.heap.size w1.heap.size #[.int .i64 0,.int .i64 0,.string ⟨#[]⟩,.slice none 0 0] #[.int .i64 3,.int .i64 0,.string ⟨#[]⟩,.slice none 0 0] 39 (nextW L).2 from ⟨(uh R1).rd.on bY,(gr_of (uh HB) _).trans ((uh R1).gr.trans (gr_of bY _)),blk_onS xw1 bY,hY⟩);obtain ⟨y0,y1,y2,y3⟩:=of4s (uh P0).x5;have yf:∀ o,Y.frozen? ⟨w1.heap.size,o,none⟩=false:=(fun o=>(by unfold World.frozen?;simp [(uh P0).x5]));obtain ⟨z0,z1,z2,z3⟩:=of4s (uh P0).x4;have zf:∀ o,Y.frozen? ⟨w.heap.size,o,none⟩=false:=(fun o=>(by unfold World.frozen?;simp [(uh P0).x4]));have P1:=hide ((((uh P0).s41 h2 h3 hle (.int .i64 0)).s42 h2 h3 hle (.string ⟨#[]⟩)).s43 h2 h3 hle (.slice none 0 0));clear bY hY xw1 P0)
  | (go_at_call 99;refine (number_any2 w0 hG g (nextW L).2 _ ((uh HW).trans (gr_below (uh P1).gr hg0 (uh HW).size)) hg0 (uh P1).rd (by omega)).mono ?_;rintro e w5 ⟨rfl,hs⟩;have P5:=hide ((uh P1).step hs h1 h2);clear hs;clear y0 y1 y2 y3 yf z0 z1 z2 z3 zf;obtain ⟨y0,y1,y2,y3⟩:=of4s (uh P5).x5;have yf:∀ o,w5.frozen? ⟨w1.heap.size,o,none⟩=false:=(fun o=>(by unfold World.frozen?;simp [(uh P5).x5]));obtain ⟨z0,z1,z2,z3⟩:=of4s (uh P5).x4;have zf:∀ o,w5.frozen? ⟨w.heap.size,o,none⟩=false:=(fun o=>(by unfold World.frozen?;simp [(uh P5).x4]))))
 have P6:=hide ((uh P5).s41 h2 h3 hle (.int .i64 (numAt (nextW L).2)))
 refine bodyPost_ret (v:=.agg #[.int .i64 3,.int .i64 (numAt (nextW L).2),.string ⟨#[]⟩,.slice none 0 0]) (by simp [results,Tryz.results102,go_sem,z0,z1,z2,z3]) rfl ⟨rfl,⟨((((uh P6).rd.put h1 _ _).put h1 _ _).put h1 _ _).put h1 _ _,gr_put (gr_put (gr_put (gr_put (uh P6).gr (Nat.le_refl _) _ _) (Nat.le_refl _) _ _) (Nat.le_refl _) _ _) (Nat.le_refl _) _ _⟩⟩
set_option maxHeartbeats 8000000 in
set_option maxRecDepth 100000 in
theorem callRd_2 (w0:World) (hG:G w0) (g:Nat) (L:Bs) (w:World) (hw:Below w0.heap.size w0 w) (hg0:w0.heap.size<=g) (h:Rd w g L) (hz:L.length<=1000000000000) (hk:kindOfW callW 4 (nextW L).1=2) :
  Calls Tryz.prog 102 #[.pointer (some ⟨g,0,none⟩)] w fun e w'=>e=.returned (.agg #[.int .i64 2,.int .i64 (numAt (nextW L).2),.string (unqV (nextW (nextW (nextW L).2).2).1),.slice none 0 0])/\RdS w g (nextW (nextW (nextW L).2).2).2 w':=by
 have mixed:Tryz.prog.follows .mixedOrders=true:=by kernel_rfl
 obtain ⟨X,HX⟩:∃ X,w.alloc (.cells #[.int .i64 0,.int .i64 0,.string ⟨#[]⟩,.slice none 0 0] 39)=X:=⟨_,rfl⟩
 have bX:Below w.heap.size w X:=by rw [<- HX];exact (Below.refl _ _).alloc (Nat.le_refl _) _
 have hX:X.heap[w.heap.size]? = some (.cells #[.int .i64 0,.int .i64 0,.string ⟨#[]⟩,.slice none 0 0] 39 (0,0)):=by rw [<- HX];exact box_new _ _
 have hN:=next_any g L X (h.on bX) (by omega)
 obtain ⟨s,hs⟩:∃ s:ByteArray,(⟨(nextW L).1.toArray⟩:ByteArray)=s:=⟨_,rfl⟩
 have hsL:Lb s=(nextW L).1:=by rw [<- hs,lb_mk]
 rw [hs] at hN
 have hK:=fun W=>kindCall_any s W
 rw [hsL,hk] at hK
 have l1:=nextW_le L
 have l2:=nextW_le (nextW L).2
 have l3:=nextW_le (nextW (nextW L).2).2
 have HN:=hide hN
 have HK:=hide hK
 have HZ:=hide hX
 have HB:=hide bX
 have HW:=hide hw
 have h1:g ≠ w.heap.size:=Nat.ne_of_lt h.lt
 clear hN hK hX bX hw hs hsL h hk
 go_enter Tryz.func102,Tryz.ntmps102
 go_wp2_with (first
  | (go_at_call 70;refine (uh HN).mono ?_;rintro e w1 ⟨rfl,s1⟩;have R1:=hide s1;clear s1)
  | (go_at_call 101;refine (uh HK _).mono ?_;rintro e w4 ⟨rfl,h4⟩;obtain rfl:=h4.symm;obtain ⟨Y,HY⟩:∃ Y,w1.alloc (.cells #[.int .i64 2,.int .i64 0,.string ⟨#[]⟩,.slice none 0 0] 39)=Y:=⟨_,rfl⟩;have bY:Below w1.heap.size w1 Y:=(by rw [<- HY];exact (Below.refl _ _).alloc (Nat.le_refl _) _);have hY:Y.heap[w1.heap.size]? = some (.cells #[.int .i64 2,.int .i64 0,.string ⟨#[]⟩,.slice none 0 0] 39 (0,0)):=(by rw [<- HY];exact box_new _ _);have xw1:w1.heap[w.heap.size]? = some (.cells #[.int .i64 0,.int .i64 0,.string ⟨#[]⟩,.slice none 0 0] 39 (0,0)):=((uh R1).gr.block _ (heap_lt (uh HZ)) (by intro e;injection e with e;exact h1 e.symm)).trans (uh HZ);have h2:g ≠ w1.heap.size:=Nat.ne_of_lt (uh R1).rd.lt;have hzl:w.heap.size < w1.heap.size:=heap_lt xw1;have h3:w.heap.size ≠ w1.heap.size:=Nat.ne_of_lt hzl;have h3':¬ w1.heap.size=w.heap.size:=fun e=>h3 e.symm;have hle:w.heap.size<=w1.heap.size:=Nat.le_of_lt hzl;have P0:=hide (show OpS w Y g w.heap.size w1.heap.size #[.int .i64 0,.int .i64 0,.string ⟨#[]⟩,.slice none 0 0] #[.int .i64 2,.int .i64 0,.string ⟨#[]⟩,.slice none 0 0] 39 (nextW L).2 from ⟨(uh R1).rd.on bY,(gr_of (uh HB) _).trans ((uh R1).gr.trans (gr_of bY _)),blk_onS xw1 bY,hY⟩);obtain ⟨y0,y1,y2,y3⟩:=of4s (uh P0).x5;have yf:∀ o,Y.frozen? ⟨w1.heap.size,o,none⟩=false:=(fun o=>(by unfold World.frozen?;simp [(uh P0).x5]));obtain ⟨z0,z1,z2,z3⟩:=of4s (uh P0).x4;have zf:∀ o,Y.frozen? ⟨w.heap.size,o,none⟩=false:=(fun o=>(by unfold World.frozen?;simp [(uh P0).x4]));have P1:=hide ((((uh P0).s41 h2 h3 hle (.int .i64 0)).s42 h2 h3 hle (.string ⟨#[]⟩)).s43 h2 h3 hle (.slice none 0 0));clear bY hY xw1 P0)
  | (go_at_call 99;refine (number_any2 w0 hG g (nextW L).2 _ ((uh HW).trans (gr_below (uh P1).gr hg0 (uh HW).size)) hg0 (uh P1).rd (by omega)).mono ?_;rintro e w5 ⟨rfl,hs⟩;have P5:=hide ((uh P1).step hs h1 h2);clear hs;clear y0 y1 y2 y3 yf z0 z1 z2 z3 zf;obtain ⟨y0,y1,y2,y3⟩:=of4s (uh P5).x5;have yf:∀ o,w5.frozen? ⟨w1.heap.size,o,none⟩=false:=(fun o=>(by unfold World.frozen?;simp [(uh P5).x5]));obtain ⟨z0,z1,z2,z3⟩:=of4s (uh P5).x4;have zf:∀ o,w5.frozen? ⟨w.heap.size,o,none⟩=false:=(fun o=>(by unfold World.frozen?;simp [(uh P5).x4])))
  | (go_at_call 126;have P6:=hide ((uh P5).s41 h2 h3 hle (.int .i64 (numAt (nextW L).2)));refine (text_any2 g (nextW (nextW L).2).2 _ (uh P6).rd (by omega)).mono ?_;rintro e w7 ⟨rfl,hs⟩;have P7:=hide ((uh P6).step hs h1 h2);clear hs;clear y0 y1 y2 y3 yf z0 z1 z2 z3 zf;obtain ⟨y0,y1,y2,y3⟩:=of4s (uh P7).x5;have yf:∀ o,w7.frozen? ⟨w1.heap.size,o,none⟩=false:=(fun o=>(by unfold World.frozen?;simp [(uh P7).x5]));obtain ⟨z0,z1,z2,z3⟩:=of4s (uh P7).x4;have zf:∀ o,w7.frozen? ⟨w.heap.size,o,none⟩=false:=(fun o=>(by unfold World.frozen?;simp [(uh P7).x4]))))
 have P8:=hide ((uh P7).s42 h2 h3 hle (.string (unqV (nextW (nextW (nextW L).2).2).1)))
 refine bodyPost_ret (v:=.agg #[.int .i64 2,.int .i64 (numAt (nextW L).2),.string (unqV (nextW (nextW (nextW L).2).2).1),.slice none 0 0]) (by simp [results,Tryz.results102,go_sem,z0,z1,z2,z3]) rfl ⟨rfl,⟨((((uh P8).rd.put h1 _ _).put h1 _ _).put h1 _ _).put h1 _ _,gr_put (gr_put (gr_put (gr_put (uh P8).gr (Nat.le_refl _) _ _) (Nat.le_refl _) _ _) (Nat.le_refl _) _ _) (Nat.le_refl _) _ _⟩⟩
set_option maxHeartbeats 8000000 in
set_option maxRecDepth 100000 in
theorem callRd_0 (w0:World) (_:G w0) (g:Nat) (L:Bs) (w:World) (hw:Below w0.heap.size w0 w) (_:w0.heap.size<=g) (h:Rd w g L) (hz:L.length<=1000000000000) (h1':kindOfW callW 4 (nextW L).1 ≠ 1) (h2':kindOfW callW 4 (nextW L).1 ≠ 2) (h3':kindOfW callW 4 (nextW L).1 ≠ 3) (h4':kindOfW callW 4 (nextW L).1 ≠ 4) :
  Calls Tryz.prog 102 #[.pointer (some ⟨g,0,none⟩)] w fun e w'=>e=.returned (.agg #[.int .i64 (kindOfW callW 4 (nextW L).1),.int .i64 0,.string ⟨#[]⟩,.slice none 0 0])/\RdS w g (nextW L).2 w':=by
 have mixed:Tryz.prog.follows .mixedOrders=true:=by kernel_rfl
 obtain ⟨X,HX⟩:∃ X,w.alloc (.cells #[.int .i64 0,.int .i64 0,.string ⟨#[]⟩,.slice none 0 0] 39)=X:=⟨_,rfl⟩
 have bX:Below w.heap.size w X:=by rw [<- HX];exact (Below.refl _ _).alloc (Nat.le_refl _) _
 have hX:X.heap[w.heap.size]? = some (.cells #[.int .i64 0,.int .i64 0,.string ⟨#[]⟩,.slice none 0 0] 39 (0,0)):=by rw [<- HX];exact box_new _ _
 have hN:=next_any g L X (h.on bX) (by omega)
 obtain ⟨s,hs⟩:∃ s:ByteArray,(⟨(nextW L).1.toArray⟩:ByteArray)=s:=⟨_,rfl⟩
 have hsL:Lb s=(nextW L).1:=by rw [<- hs,lb_mk]
 rw [hs] at hN
 have hK:=fun W=>kindCall_any s W
 rw [hsL] at hK
 obtain ⟨kk,hkk⟩:∃ k,kindOfW callW 4 (nextW L).1=k:=⟨_,rfl⟩
 rw [hkk] at hK h1' h2' h3' h4' ⊢
 have n1:(kk == 1)=false:=by simpa using h1'
 have n2:(kk == 2)=false:=by simpa using h2'
 have n3:(kk == 3)=false:=by simpa using h3'
 have n4:(kk == 4)=false:=by simpa using h4'
 clear hkk h1' h2' h3' h4'
 have l1:=nextW_le L
 have l2:=nextW_le (nextW L).2
 have l3:=nextW_le (nextW (nextW L).2).2
 have HN:=hide hN
 have HK:=hide hK
 have HZ:=hide hX
 have HB:=hide bX
 have HW:=hide hw
 have h1:g ≠ w.heap.size:=Nat.ne_of_lt h.lt
 clear hN hK hX bX hw hs hsL h
 go_enter Tryz.func102,Tryz.ntmps102
 go_wp2_with (first
  | (go_at_call 70;refine (uh HN).mono ?_;rintro e w1 ⟨rfl,s1⟩;have R1:=hide s1;clear s1)
  | (go_at_call 101;refine (uh HK _).mono ?_;rintro e w4 ⟨rfl,h4⟩;obtain rfl:=h4.symm;obtain ⟨Y,HY⟩:∃ Y,w1.alloc (.cells #[.int .i64 kk,.int .i64 0,.string ⟨#[]⟩,.slice none 0 0] 39)=Y:=⟨_,rfl⟩;have bY:Below w1.heap.size w1 Y:=(by rw [<- HY];exact (Below.refl _ _).alloc (Nat.le_refl _) _);have hY:Y.heap[w1.heap.size]? = some (.cells #[.int .i64 kk,.int .i64 0,.string ⟨#[]⟩,.slice none 0 0] 39 (0,0)):=(by rw [<- HY];exact box_new _ _);have xw1:w1.heap[w.heap.size]? = some (.cells #[.int .i64 0,.int .i64 0,.string ⟨#[]⟩,.slice none 0 0] 39 (0,0)):=((uh R1).gr.block _ (heap_lt (uh HZ)) (by intro e;injection e with e;exact h1 e.symm)).trans (uh HZ);have h2:g ≠ w1.heap.size:=Nat.ne_of_lt (uh R1).rd.lt;have hzl:w.heap.size < w1.heap.size:=heap_lt xw1;have h3:w.heap.size ≠ w1.heap.size:=Nat.ne_of_lt hzl;have h3':¬ w1.heap.size=w.heap.size:=fun e=>h3 e.symm;have hle:w.heap.size<=w1.heap.size:=Nat.le_of_lt hzl;have P0:=hide (show OpS w Y g w.heap.size w1.heap.size #[.int .i64 0,.int .i64 0,.string ⟨#[]⟩,.slice none 0 0] #[.int .i64 kk,.int .i64 0,.string ⟨#[]⟩,.slice none 0 0] 39 (nextW L).2 from ⟨(uh R1).rd.on bY,(gr_of (uh HB) _).trans ((uh R1).gr.trans (gr_of bY _)),blk_onS xw1 bY,hY⟩);obtain ⟨y0,y1,y2,y3⟩:=of4s (uh P0).x5;have yf:∀ o,Y.frozen? ⟨w1.heap.size,o,none⟩=false:=(fun o=>(by unfold World.frozen?;simp [(uh P0).x5]));obtain ⟨z0,z1,z2,z3⟩:=of4s (uh P0).x4;have zf:∀ o,Y.frozen? ⟨w.heap.size,o,none⟩=false:=(fun o=>(by unfold World.frozen?;simp [(uh P0).x4]));have P1:=hide ((((uh P0).s41 h2 h3 hle (.int .i64 0)).s42 h2 h3 hle (.string ⟨#[]⟩)).s43 h2 h3 hle (.slice none 0 0));clear bY hY xw1 P0))
 refine bodyPost_ret (v:=.agg #[.int .i64 kk,.int .i64 0,.string ⟨#[]⟩,.slice none 0 0]) (by simp [results,Tryz.results102,go_sem,z0,z1,z2,z3]) rfl ⟨rfl,⟨((((uh P1).rd.put h1 _ _).put h1 _ _).put h1 _ _).put h1 _ _,gr_put (gr_put (gr_put (gr_put (uh P1).gr (Nat.le_refl _) _ _) (Nat.le_refl _) _ _) (Nat.le_refl _) _ _) (Nat.le_refl _) _ _⟩⟩
end Go.Proofs.YtdgoibnndfibnaaGreatDoor

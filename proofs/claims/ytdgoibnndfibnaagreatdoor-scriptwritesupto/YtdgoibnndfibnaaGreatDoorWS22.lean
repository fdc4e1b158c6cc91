/- The reader: calls and ops of any kind. -/
import Derived.Test.YtdgoibnndfibnaaGreatDoorWS21
namespace Go.Proofs.YtdgoibnndfibnaaGreatDoor
open Go.RowKit Go.Sort
theorem OpS.s71 {w W:World} {g a b:Nat} {Z:Array Value} {v0 v1 v2 v3 v4 v5 v6:Value} {T:TypeId} {R:Bs} (h:OpS w W g a b Z #[v0,v1,v2,v3,v4,v5,v6] T R) (h2:g ≠ b) (h3:a ≠ b) (hw:w.heap.size<=b) (v:Value):OpS w (W.setCell ⟨b,1,none⟩ v) g a b Z #[v0,v,v2,v3,v4,v5,v6] T R:=by
 have:=h.set h2 h3 hw 1 v
 simpa using this
theorem OpS.s72 {w W:World} {g a b:Nat} {Z:Array Value} {v0 v1 v2 v3 v4 v5 v6:Value} {T:TypeId} {R:Bs} (h:OpS w W g a b Z #[v0,v1,v2,v3,v4,v5,v6] T R) (h2:g ≠ b) (h3:a ≠ b) (hw:w.heap.size<=b) (v:Value):OpS w (W.setCell ⟨b,2,none⟩ v) g a b Z #[v0,v1,v,v3,v4,v5,v6] T R:=by
 have:=h.set h2 h3 hw 2 v
 simpa using this
theorem OpS.s73 {w W:World} {g a b:Nat} {Z:Array Value} {v0 v1 v2 v3 v4 v5 v6:Value} {T:TypeId} {R:Bs} (h:OpS w W g a b Z #[v0,v1,v2,v3,v4,v5,v6] T R) (h2:g ≠ b) (h3:a ≠ b) (hw:w.heap.size<=b) (v:Value):OpS w (W.setCell ⟨b,3,none⟩ v) g a b Z #[v0,v1,v2,v,v4,v5,v6] T R:=by
 have:=h.set h2 h3 hw 3 v
 simpa using this
theorem OpS.s74 {w W:World} {g a b:Nat} {Z:Array Value} {v0 v1 v2 v3 v4 v5 v6:Value} {T:TypeId} {R:Bs} (h:OpS w W g a b Z #[v0,v1,v2,v3,v4,v5,v6] T R) (h2:g ≠ b) (h3:a ≠ b) (hw:w.heap.size<=b) (v:Value):OpS w (W.setCell ⟨b,4,none⟩ v) g a b Z #[v0,v1,v2,v3,v,v5,v6] T R:=by
 have:=h.set h2 h3 hw 4 v
 simpa using this
theorem OpS.s75 {w W:World} {g a b:Nat} {Z:Array Value} {v0 v1 v2 v3 v4 v5 v6:Value} {T:TypeId} {R:Bs} (h:OpS w W g a b Z #[v0,v1,v2,v3,v4,v5,v6] T R) (h2:g ≠ b) (h3:a ≠ b) (hw:w.heap.size<=b) (v:Value):OpS w (W.setCell ⟨b,5,none⟩ v) g a b Z #[v0,v1,v2,v3,v4,v,v6] T R:=by
 have:=h.set h2 h3 hw 5 v
 simpa using this
theorem OpS.s76 {w W:World} {g a b:Nat} {Z:Array Value} {v0 v1 v2 v3 v4 v5 v6:Value} {T:TypeId} {R:Bs} (h:OpS w W g a b Z #[v0,v1,v2,v3,v4,v5,v6] T R) (h2:g ≠ b) (h3:a ≠ b) (hw:w.heap.size<=b) (v:Value):OpS w (W.setCell ⟨b,6,none⟩ v) g a b Z #[v0,v1,v2,v3,v4,v5,v] T R:=by
 have:=h.set h2 h3 hw 6 v
 simpa using this
theorem own_put7 {α:Type} [Inhabited α] {enc:α->List Value} {e:TypeId} {k B M:Nat} {w:World} {q:Option Addr} {c:Nat} {l:List α} (h:OwnK enc e k B w q c l) (hM:M < B) {v0 v1 v2 v3 v4 v5 v6:Value}:OwnK enc e k B (((((((w.setCell ⟨M,0,none⟩ v0).setCell ⟨M,1,none⟩ v1).setCell ⟨M,2,none⟩ v2).setCell ⟨M,3,none⟩ v3).setCell ⟨M,4,none⟩ v4).setCell ⟨M,5,none⟩ v5).setCell ⟨M,6,none⟩ v6) q c l:=own_putb (own_putb (own_putb (own_put4 h hM) hM _ _) hM _ _) hM _ _
theorem own_put4b {α:Type} [Inhabited α] {enc:α->List Value} {e:TypeId} {k B M:Nat} {w:World} {q:Option Addr} {c:Nat} {l:List α} (h:OwnK enc e k B w q c l) (hM:M < B) {v0 v1 v2 v3:Value}:OwnK enc e k B ((((w.setCell ⟨M,2,none⟩ v0).setCell ⟨M,3,none⟩ v1).setCell ⟨M,4,none⟩ v2).setCell ⟨M,5,none⟩ v3) q c l:=own_putb (own_putb (own_putb (own_putb h hM _ _) hM _ _) hM _ _) hM _ _
theorem callRd_any (w0:World) (hG:G w0) (g:Nat) (L:Bs) (kind who:Int) (w:World) (hw:Below w0.heap.size w0 w) (hg0:w0.heap.size<=g) (h:Rd w g L) (hz:L.length<=1000000000000) :
  Calls Tryz.prog 102 #[.pointer (some ⟨g,0,none⟩)] w fun e w'=>(∃ q c,e=.returned (.agg #[.int .i64 (rdCall kind who L).ck,.int .i64 (rdCall kind who L).id,.string (rdCall kind who L).text,.slice q (rdCall kind who L).ev.length c])/\OwnK encQ 78 4 w.heap.size w' q c (rdCall kind who L).ev)/\∃ R,RdS w g R w':=by
 by_cases k1:kindOfW callW 4 (nextW L).1=1
 ·rw [show rdCall kind who L=⟨kind,who,1,0,unqV (nextW (nextW L).2).1,[],[]⟩ by unfold rdCall;simp [k1]]
  refine (callRd_1 w0 hG g L w hw hg0 h hz k1).mono ?_
  rintro e w' ⟨rfl,hs⟩
  exact ⟨⟨none,0,rfl,OwnK.nil _ _⟩,_,hs⟩
 by_cases k2:kindOfW callW 4 (nextW L).1=2
 ·rw [show rdCall kind who L=⟨kind,who,2,numAt (nextW L).2,unqV (nextW (nextW (nextW L).2).2).1,[],[]⟩ by unfold rdCall;simp [k2];rfl]
  refine (callRd_2 w0 hG g L w hw hg0 h hz k2).mono ?_
  rintro e w' ⟨rfl,hs⟩
  exact ⟨⟨none,0,rfl,OwnK.nil _ _⟩,_,hs⟩
 by_cases k3:kindOfW callW 4 (nextW L).1=3
 ·rw [show rdCall kind who L=⟨kind,who,3,numAt (nextW L).2,⟨#[]⟩,[],[]⟩ by unfold rdCall;simp [k3];rfl]
  refine (callRd_3 w0 hG g L w hw hg0 h hz k3).mono ?_
  rintro e w' ⟨rfl,hs⟩
  exact ⟨⟨none,0,rfl,OwnK.nil _ _⟩,_,hs⟩
 by_cases k4:kindOfW callW 4 (nextW L).1=4
 ·rw [show rdCall kind who L=⟨kind,who,4,0,⟨#[]⟩,readA rdPair (nextW L).2,[]⟩ by unfold rdCall;simp [k4]]
  refine (callRd_4 w0 hG g L w hw hg0 h hz k4).mono ?_
  rintro e w' ⟨⟨q,c,rfl,ho⟩,hs⟩
  exact ⟨⟨q,c,rfl,ho⟩,_,hs⟩
 ·rw [show rdCall kind who L=⟨kind,who,kindOfW callW 4 (nextW L).1,0,⟨#[]⟩,[],[]⟩ by unfold rdCall;simp [k1,k2,k3,k4]]
  refine (callRd_0 w0 hG g L w hw hg0 h hz k1 k2 k3 k4).mono ?_
  rintro e w' ⟨rfl,hs⟩
  exact ⟨⟨none,0,rfl,OwnK.nil _ _⟩,_,hs⟩
set_option maxHeartbeats 8000000 in
set_option maxRecDepth 100000 in
theorem opRd_call (w0:World) (hG:G w0) (g:Nat) (L:Bs) (s:ByteArray) (w:World) (hw:Below w0.heap.size w0 w) (hg0:w0.heap.size<=g) (h:Rd w g L) (hz:L.length<=1000000000000) (hk:kindOfW opW 7 (Lb s)=1) (o:Sop) (ho:rdCall 1 (numAt L) (nextW L).2=o) :
  Calls Tryz.prog 73 #[.pointer (some ⟨g,0,none⟩),.string s] w fun e w'=>(∃ q c,e=.returned (.agg #[.int .i64 1,.int .i64 (numAt L),.int .i64 o.ck,.int .i64 o.id,.string o.text,.slice q o.ev.length c,.slice none 0 0])/\OwnK encQ 78 4 w.heap.size w' q c o.ev)/\∃ R,RdS w g R w':=by
 have mixed:Tryz.prog.follows .mixedOrders=true:=by kernel_rfl
 have hK:=fun W=>kindOp_any s W
 rw [hk] at hK
 obtain ⟨X,HX⟩:∃ X,w.alloc (.cells #[.int .i64 0,.int .i64 0,.int .i64 0,.int .i64 0,.string ⟨#[]⟩,.slice none 0 0,.slice none 0 0] 42)=X:=⟨_,rfl⟩
 have bX:Below w.heap.size w X:=by rw [<- HX];exact (Below.refl _ _).alloc (Nat.le_refl _) _
 have hX:X.heap[w.heap.size]? = some (.cells #[.int .i64 0,.int .i64 0,.int .i64 0,.int .i64 0,.string ⟨#[]⟩,.slice none 0 0,.slice none 0 0] 42 (0,0)):=by rw [<- HX];exact box_new _ _
 obtain ⟨Y,HY⟩:∃ Y,X.alloc (.cells #[.int .i64 1,.int .i64 0,.int .i64 0,.int .i64 0,.string ⟨#[]⟩,.slice none 0 0,.slice none 0 0] 42)=Y:=⟨_,rfl⟩
 have bY:Below X.heap.size X Y:=by rw [<- HY];exact (Below.refl _ _).alloc (Nat.le_refl _) _
 have hY:Y.heap[X.heap.size]? = some (.cells #[.int .i64 1,.int .i64 0,.int .i64 0,.int .i64 0,.string ⟨#[]⟩,.slice none 0 0,.slice none 0 0] 42 (0,0)):=by rw [<- HY];exact box_new _ _
 have P0:=hide (show OpS w Y g w.heap.size X.heap.size #[.int .i64 0,.int .i64 0,.int .i64 0,.int .i64 0,.string ⟨#[]⟩,.slice none 0 0,.slice none 0 0] #[.int .i64 1,.int .i64 0,.int .i64 0,.int .i64 0,.string ⟨#[]⟩,.slice none 0 0,.slice none 0 0] 42 L from ⟨(h.on bX).on bY,gr_of (below_sub bX bY) _,blk_onS hX bY,hY⟩)
 have hgw:=h.lt
 have hzX:w.heap.size < X.heap.size:=heap_lt hX
 have h1:g ≠ w.heap.size:=Nat.ne_of_lt hgw
 have h2:g ≠ X.heap.size:=by omega
 have h3:w.heap.size ≠ X.heap.size:=by omega
 have h3':¬ X.heap.size=w.heap.size:=by omega
 have hle:=Nat.le_of_lt hzX
 have HW:=hide hw
 have HK:=hide hK
 have l1:=nextW_le L
 clear hX bX hY bY h hw hK hk
 obtain ⟨y0,y1,y2,y3,y4,y5,y6⟩:=of7s (uh P0).x5
 have yf:∀ o,Y.frozen? ⟨X.heap.size,o,none⟩=false:=(fun o=>(by unfold World.frozen?;simp [(uh P0).x5]))
 obtain ⟨z0,z1,z2,z3,z4,z5,z6⟩:=of7s (uh P0).x4
 have zf:∀ o,Y.frozen? ⟨w.heap.size,o,none⟩=false:=(fun o=>(by unfold World.frozen?;simp [(uh P0).x4]))
 have P1:=hide (((((((uh P0).s71 h2 h3 hle (.int .i64 0)).s72 h2 h3 hle (.int .i64 0)).s73 h2 h3 hle (.int .i64 0)).s74 h2 h3 hle (.string ⟨#[]⟩)).s75 h2 h3 hle (.slice none 0 0)).s76 h2 h3 hle (.slice none 0 0))
 clear P0
 go_enter Tryz.func73,Tryz.ntmps73
 go_wp2_with (first
  | (go_at_call 101;refine (uh HK _).mono ?_;rintro e w4 ⟨rfl,h4⟩;obtain rfl:=h4.symm)
  | (go_at_call 99;refine (number_any2 w0 hG g L _ ((uh HW).trans (gr_below (uh P1).gr hg0 (uh HW).size)) hg0 (uh P1).rd (by omega)).mono ?_;rintro e w5 ⟨rfl,hs⟩;have P5:=hide ((uh P1).step hs h1 h2);clear hs;clear y0 y1 y2 y3 y4 y5 y6 yf z0 z1 z2 z3 z4 z5 z6 zf;obtain ⟨y0,y1,y2,y3,y4,y5,y6⟩:=of7s (uh P5).x5;have yf:∀ o,w5.frozen? ⟨X.heap.size,o,none⟩=false:=(fun o=>(by unfold World.frozen?;simp [(uh P5).x5]));obtain ⟨z0,z1,z2,z3,z4,z5,z6⟩:=of7s (uh P5).x4;have zf:∀ o,w5.frozen? ⟨w.heap.size,o,none⟩=false:=(fun o=>(by unfold World.frozen?;simp [(uh P5).x4])))
  | (go_at_call 102;have P6:=hide ((uh P5).s71 h2 h3 hle (.int .i64 (numAt L)));refine (callRd_any w0 hG g (nextW L).2 1 (numAt L) _ ((uh HW).trans (gr_below (uh P6).gr hg0 (uh HW).size)) hg0 (uh P6).rd (by omega)).mono ?_;rw [ho];rintro e w7 ⟨⟨q,c,rfl,hown⟩,R,hs⟩;have P7:=hide ((uh P6).step hs h1 h2);have zu:=heap_lt (uh P6).x5;have OW:=hide hown;clear hs hown;clear y0 y1 y2 y3 y4 y5 y6 yf z0 z1 z2 z3 z4 z5 z6 zf;obtain ⟨y0,y1,y2,y3,y4,y5,y6⟩:=of7s (uh P7).x5;have yf:∀ o,w7.frozen? ⟨X.heap.size,o,none⟩=false:=(fun o=>(by unfold World.frozen?;simp [(uh P7).x5]));obtain ⟨z0,z1,z2,z3,z4,z5,z6⟩:=of7s (uh P7).x4;have zf:∀ o,w7.frozen? ⟨w.heap.size,o,none⟩=false:=(fun o=>(by unfold World.frozen?;simp [(uh P7).x4]))))
 have P8:=hide (((((uh P7).s72 h2 h3 hle (.int .i64 o.ck)).s73 h2 h3 hle (.int .i64 o.id)).s74 h2 h3 hle (.string o.text)).s75 h2 h3 hle (.slice q o.ev.length c))
 refine bodyPost_ret (v:=.agg #[.int .i64 1,.int .i64 (numAt L),.int .i64 o.ck,.int .i64 o.id,.string o.text,.slice q o.ev.length c,.slice none 0 0]) (by simp [results,Tryz.results73,go_sem,z0,z1,z2,z3,z4,z5,z6]) rfl ⟨⟨q,c,rfl, ?_⟩,R, ?_, ?_⟩
 ·exact OwnK.mono (own_put7 (own_put4b (uh OW) zu) (Nat.lt_trans hzX zu)) (Nat.le_of_lt (Nat.lt_trans hzX zu))
 ·exact ((((((((uh P8).rd.put h1 _ _).put h1 _ _).put h1 _ _).put h1 _ _).put h1 _ _).put h1 _ _).put h1 _ _)
 ·exact gr_put (gr_put (gr_put (gr_put (gr_put (gr_put (gr_put (uh P8).gr (Nat.le_refl _) _ _) (Nat.le_refl _) _ _) (Nat.le_refl _) _ _) (Nat.le_refl _) _ _) (Nat.le_refl _) _ _) (Nat.le_refl _) _ _) (Nat.le_refl _) _ _
/-- An op of the call's own: its rows lie from B on. -/
structure OpOwn (B:Nat) (w:World) (u:Ou) (o:Sop):Prop where
 kind:u.kind=o.kind
 who:u.who=o.who
 ck:u.ck=o.ck
 id:u.id=o.id
 text:u.text=o.text
 ne:u.ne=o.ev.length
 nn:u.nn=o.nums.length
 ev:OwnK encQ 78 4 B w u.qe u.ce o.ev
 nums:OwnK encI 3 1 B w u.qn u.cn o.nums
theorem OpOwn.oin {B:Nat} {w:World} {u:Ou} {o:Sop} (h:OpOwn B w u o):OpIn w u o:=⟨h.1,h.2,h.3,h.4,h.5,h.6,h.7,h.8.ls,h.9.ls⟩
theorem rdCall_parts (kind who:Int) (l:Bs):(rdCall kind who l).kind=kind/\(rdCall kind who l).who=who/\(rdCall kind who l).nums=[]:=by
 by_cases k1:kindOfW callW 4 (nextW l).1=1
 ·simp [rdCall,k1]
 by_cases k2:kindOfW callW 4 (nextW l).1=2
 ·simp [rdCall,k2]
 by_cases k3:kindOfW callW 4 (nextW l).1=3
 ·simp [rdCall,k3]
 by_cases k4:kindOfW callW 4 (nextW l).1=4
 ·simp [rdCall,k4]
 ·simp [rdCall,k1,k2,k3,k4]
theorem opRd_any (w0:World) (hG:G w0) (g:Nat) (L:Bs) (s:ByteArray) (w:World) (hw:Below w0.heap.size w0 w) (hg0:w0.heap.size<=g) (h:Rd w g L) (hz:L.length<=1000000000000) :
  Calls Tryz.prog 73 #[.pointer (some ⟨g,0,none⟩),.string s] w fun e w'=>(∃ u:Ou,e=.returned u.val/\OpOwn w.heap.size w' u (rdOp (Lb s) L))/\∃ R,RdS w g R w':=by
 by_cases hk:kindOfW opW 7 (Lb s)=1
 ·obtain ⟨o,ho⟩:∃ o,rdCall 1 (numAt L) (nextW L).2=o:=⟨_,rfl⟩
  have hr:rdOp (Lb s) L=o:=by unfold rdOp;simp only [hk,if_true];exact ho
  have hp:o.kind=1/\o.who=numAt L/\o.nums=[]:=by rw [<- ho];exact rdCall_parts _ _ _
  rw [hr]
  refine (opRd_call w0 hG g L s w hw hg0 h hz hk o ho).mono ?_
  rintro e w' ⟨⟨q,c,rfl,hown⟩,hs⟩
  exact ⟨⟨⟨1,numAt L,o.ck,o.id,o.text,q,o.ev.length,c,none,0,0⟩,rfl,hp.1.symm,hp.2.1.symm,rfl,rfl,rfl,rfl,by rw [hp.2.2];rfl,hown,by rw [hp.2.2];exact OwnK.nil _ _⟩,hs⟩
 ·have hr:rdOp (Lb s) L=⟨kindOfW opW 7 (Lb s),0,0,0,⟨#[]⟩,[],readA atoiN L⟩:=by unfold rdOp;simp [hk]
  rw [hr]
  refine (opRd_else w0 hG g L s w hw hg0 h hz hk).mono ?_
  rintro e w' ⟨⟨q,c,rfl,hown⟩,hs⟩
  exact ⟨⟨⟨kindOfW opW 7 (Lb s),0,0,0,⟨#[]⟩,none,0,0,q,(readA atoiN L).length,c⟩,rfl,rfl,rfl,rfl,rfl,rfl,rfl,rfl,OwnK.nil _ _,hown⟩,_,hs⟩
end Go.Proofs.YtdgoibnndfibnaaGreatDoor

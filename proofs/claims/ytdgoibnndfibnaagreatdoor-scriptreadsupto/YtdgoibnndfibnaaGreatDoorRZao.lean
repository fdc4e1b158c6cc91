/- The reader: a call with an event. -/
import Derived.Test.YtdgoibnndfibnaaGreatDoorRS20
namespace Go.Proofs.YtdgoibnndfibnaaGreatDoor
open Go.RowKit Go.Sort
theorem one_pair (W:World) (p:Pq):SlOf encQ 4 (W.alloc (.cells #[.string p.1,.int .i64 p.2.1,.int .i64 p.2.2.1,.string p.2.2.2] 78)) (some ⟨W.heap.size,0,none⟩) 1 [p]:=by
 refine ⟨fun h=>(by cases h),Nat.le_refl _,(by unfold maxLen;omega),LsOf.one (by simp) fun c hc=>?_⟩
 obtain ⟨a,b,d,e⟩:=of4s (box_new W (.cells #[.string p.1,.int .i64 p.2.1,.int .i64 p.2.2.1,.string p.2.2.2] 78))
 obtain rfl | rfl | rfl | rfl:c=0 ∨ c=1 ∨ c=2 ∨ c=3:=by omega
 ·exact a
 ·exact b
 ·exact d
 ·exact e
theorem pair_any2 (w0:World) (hG:G w0) (g:Nat) (L:Bs) (p:Pq) (hp:rdPair (nextW L).1=p) (w:World) (hw:Below w0.heap.size w0 w) (hg0:w0.heap.size<=g) (h:Rd w g L) (hz:L.length<=100000000000000) :
  Calls Tryz.prog 127 #[.pointer (some ⟨g,0,none⟩)] w fun e w'=>e=.returned (.agg #[.string p.1,.int .i64 p.2.1,.int .i64 p.2.2.1,.string p.2.2.2])/\RdS w g (nextW L).2 w':=by
 refine (pair_any w0 hG g L w hw hg0 h hz).mono ?_
 rintro e w' ⟨⟨q,hq,he⟩,hs⟩
 obtain rfl:=hq.trans hp
 exact ⟨he,hs⟩
theorem own_put4 {α:Type} [Inhabited α] {enc:α->List Value} {e:TypeId} {k B M:Nat} {w:World} {q:Option Addr} {c:Nat} {l:List α} (h:OwnK enc e k B w q c l) (hM:M < B) {v0 v1 v2 v3:Value}:OwnK enc e k B ((((w.setCell ⟨M,0,none⟩ v0).setCell ⟨M,1,none⟩ v1).setCell ⟨M,2,none⟩ v2).setCell ⟨M,3,none⟩ v3) q c l:=own_putb (own_putb (own_putb (own_putb h hM _ _) hM _ _) hM _ _) hM _ _
set_option maxHeartbeats 8000000 in
set_option maxRecDepth 100000 in
theorem callRd_4 (w0:World) (hG:G w0) (g:Nat) (L:Bs) (w:World) (hw:Below w0.heap.size w0 w) (hg0:w0.heap.size<=g) (h:Rd w g L) (hz:L.length<=1000000000000) (hk:kindOfW callW 4 (nextW L).1=4) :
  Calls Tryz.prog 102 #[.pointer (some ⟨g,0,none⟩)] w fun e w'=>(∃ q c,e=.returned (.agg #[.int .i64 4,.int .i64 0,.string ⟨#[]⟩,.slice q (readA rdPair (nextW L).2).length c])/\OwnK encQ 78 4 w.heap.size w' q c (readA rdPair (nextW L).2))/\RdS w g [] w':=by
 have mixed:Tryz.prog.follows .mixedOrders=true:=by kernel_rfl
 obtain ⟨X,HX⟩:∃ X,w.alloc (.cells #[.int .i64 0,.int .i64 0,.string ⟨#[]⟩,.slice none 0 0] 39)=X:=⟨_,rfl⟩
 have bX:Below w.heap.size w X:=by rw [<- HX];exact (Below.refl _ _).alloc (Nat.le_refl _) _
 have hX:X.heap[w.heap.size]? = some (.cells #[.int .i64 0,.int .i64 0,.string ⟨#[]⟩,.slice none 0 0] 39 (0,0)):=by rw [<- HX];exact box_new _ _
 have hN:=next_any g L X (h.on bX) (by omega)
 obtain ⟨s,hs⟩:∃ s:ByteArray,(⟨(nextW L).1.toArray⟩:ByteArray)=s:=⟨_,rfl⟩
 have hsL:Lb s=(nextW L).1:=by rw [<- hs,lb_mk]
 rw [hs] at hN
 have hK:=fun W=>kindCall_any s W
 rw [hsL,hk] at hK
 have l1:=nextW_le L
 have l2:=nextW_le (nextW L).2
 have l3:=nextW_le (nextW (nextW L).2).2
 have HN:=hide hN
 have HK:=hide hK
 have HZ:=hide hX
 have HB:=hide bX
 have HW:=hide hw
 have hgw:=h.lt
 have h1:g ≠ w.heap.size:=Nat.ne_of_lt h.lt
 clear hN hK hX bX hw hs hsL h hk
 go_enter Tryz.func102,Tryz.ntmps102
 have hlen:=readA_len rdPair (nextW L).2.length (nextW L).2 (Nat.le_refl _)
 go_wp2_with (first
  | (go_at_call 70;refine (uh HN).mono ?_;rintro e w1 ⟨rfl,s1⟩;have R1:=hide s1;clear s1)
  | (go_at_call 101;refine (uh HK _).mono ?_;rintro e w4 ⟨rfl,h4⟩;obtain rfl:=h4.symm;obtain ⟨Y,HY⟩:∃ Y,w1.alloc (.cells #[.int .i64 4,.int .i64 0,.string ⟨#[]⟩,.slice none 0 0] 39)=Y:=⟨_,rfl⟩;have bY:Below w1.heap.size w1 Y:=(by rw [<- HY];exact (Below.refl _ _).alloc (Nat.le_refl _) _);have hY:Y.heap[w1.heap.size]? = some (.cells #[.int .i64 4,.int .i64 0,.string ⟨#[]⟩,.slice none 0 0] 39 (0,0)):=(by rw [<- HY];exact box_new _ _);have xw1:w1.heap[w.heap.size]? = some (.cells #[.int .i64 0,.int .i64 0,.string ⟨#[]⟩,.slice none 0 0] 39 (0,0)):=((uh R1).gr.block _ (heap_lt (uh HZ)) (by intro e;injection e with e;exact h1 e.symm)).trans (uh HZ);have h2:g ≠ w1.heap.size:=Nat.ne_of_lt (uh R1).rd.lt;have hzl:w.heap.size < w1.heap.size:=heap_lt xw1;have h3:w.heap.size ≠ w1.heap.size:=Nat.ne_of_lt hzl;have h3':¬ w1.heap.size=w.heap.size:=fun e=>h3 e.symm;have hle:w.heap.size<=w1.heap.size:=Nat.le_of_lt hzl;have P0:=hide (show OpS w Y g w.heap.size w1.heap.size #[.int .i64 0,.int .i64 0,.string ⟨#[]⟩,.slice none 0 0] #[.int .i64 4,.int .i64 0,.string ⟨#[]⟩,.slice none 0 0] 39 (nextW L).2 from ⟨(uh R1).rd.on bY,(gr_of (uh HB) _).trans ((uh R1).gr.trans (gr_of bY _)),blk_onS xw1 bY,hY⟩);obtain ⟨y0,y1,y2,y3⟩:=of4s (uh P0).x5;have yf:∀ o,Y.frozen? ⟨w1.heap.size,o,none⟩=false:=(fun o=>(by unfold World.frozen?;simp [(uh P0).x5]));obtain ⟨z0,z1,z2,z3⟩:=of4s (uh P0).x4;have zf:∀ o,Y.frozen? ⟨w.heap.size,o,none⟩=false:=(fun o=>(by unfold World.frozen?;simp [(uh P0).x4]));have P1:=hide ((((uh P0).s41 h2 h3 hle (.int .i64 0)).s42 h2 h3 hle (.string ⟨#[]⟩)).s43 h2 h3 hle (.slice none 0 0));clear bY hY xw1 P0))
 go_loopw [41] (fun _ wr=>∃ (acc:List Pq) (R:Bs) (q:Option Addr) (c:Nat),R.length<=L.length/\Hid (acc ++ readA rdPair R=readA rdPair (nextW L).2)/\Hid (OpS w wr g w.heap.size w1.heap.size #[.int .i64 0,.int .i64 0,.string ⟨#[]⟩,.slice none 0 0] #[.int .i64 4,.int .i64 0,.string ⟨#[]⟩,.slice q acc.length c] 39 R)/\Hid (OwnK encQ 78 4 (w1.heap.size + 1) wr q c acc)) (fun _ wr=>strSz ((wr.cell? ⟨g,0,none⟩).getD undef))
 case atStart=>exact ⟨[],(nextW L).2,none,0,l1,hide rfl,P1,hide (OwnK.nil _ _)⟩
 case round =>
  clear P1 y0 y1 y2 y3 yf z0 z1 z2 z3 zf HN HK
  obtain ⟨acc,R,q,c,hR,HA,HI,OW⟩:=hrel
  obtain ⟨U,rfl⟩:∃ U,U=wr:=⟨_,rfl⟩
  have hM:=more_any g R U (uh HI).rd
  have hMs:=(uh HI).rd.sz
  obtain ⟨_,_,_,v3⟩:=of4s (uh HI).x5
  have vf:∀ o,U.frozen? ⟨w1.heap.size,o,none⟩=false:=fun o=>by unfold World.frozen?;simp [(uh HI).x5]
  by_cases hne:R=[]
  ·rw [show (!R.isEmpty)=false by rw [hne];rfl] at hM
   have HACC:=hide (show acc=readA rdPair (nextW L).2 by have:=uh HA;rw [hne,readA_nil,List.append_nil] at this;exact this)
   have HRD:=hide (show Rd U g [] by have:=(uh HI).rd;rw [hne] at this;exact this)
   obtain ⟨m0,m1,m2,m3⟩:=of4s (uh HI).x5
   obtain ⟨z0,z1,z2,z3⟩:=of4s (uh HI).x4
   have zf:∀ o,U.frozen? ⟨w.heap.size,o,none⟩=false:=fun o=>by unfold World.frozen?;simp [(uh HI).x4]
   clear hne hMs v3
   go_wp2_with (go_at_call 103;refine hM.mono ?_;rintro e w5 ⟨rfl,h5⟩;obtain rfl:=h5.symm)
   refine bodyPost_ret (v:=.agg #[.int .i64 4,.int .i64 0,.string ⟨#[]⟩,.slice q acc.length c]) (by simp [results,Tryz.results102,go_sem,z0,z1,z2,z3]) rfl ⟨⟨q,c,by rw [uh HACC], ?_⟩,⟨?_, ?_⟩⟩
   ·rw [<- uh HACC]
    exact OwnK.mono (own_put4 (uh OW) (Nat.lt_succ_of_lt hzl)) (by omega)
   ·exact ((((uh HRD).put h1 _ _).put h1 _ _).put h1 _ _).put h1 _ _
   ·exact gr_put (gr_put (gr_put (gr_put (uh HI).gr (Nat.le_refl _) _ _) (Nat.le_refl _) _ _) (Nat.le_refl _) _ _) (Nat.le_refl _) _ _
  ·have he:R.isEmpty=false:=by cases R with
    | nil=>exact absurd rfl hne
    | cons a b=>rfl
   rw [he] at hM
   have hst:=readA_step rdPair hne
   have hlt:=nextW_lt hne
   obtain ⟨pv,hpv⟩:∃ p,rdPair (nextW R).1=p:=⟨_,rfl⟩
   have HA2:=hide (show (acc ++ [pv]) ++ readA rdPair (nextW R).2=readA rdPair (nextW L).2 by have:=uh HA;rw [hst,hpv] at this;rw [List.append_assoc];exact this)
   have hal:acc.length + 1<=1000000000000:=by
    have h9:=congrArg List.length (uh HA2)
    rw [List.length_append,List.length_append] at h9
    simp only [List.length_singleton] at h9
    omega
   have PV:=hide (fun V e1 e2 e3 e4=>(uh HI).like (W':=V) e1 e2 e3 e4)
   clear hne he hst
   go_wp2_with (go_at_call 103;refine hM.mono ?_;rintro e w5 ⟨rfl,h5⟩;obtain rfl:=h5.symm)
   go_region_law (first
    | (refine step_app rowQ (by rfl) (.tmp 43) (.tmp 46) (by rfl) (w1.heap.size + 1) q c acc (some ⟨w5.heap.size,0,none⟩) 1 [pv] acc.length 1 (acc.length + 1) rfl rfl rfl (by rfl) (by rfl) (own_heap (by rfl) (uh O6)) (src_heap (by rfl) (uh S6)) (by unfold maxLen;omega) (by omega) (by have:=uh Z6;simp;omega) ?_;intro q5 c5 w6 o5 bl5 _ _;have O7:=hide o5;have P7:=hide ((uh PV6 _ (by rfl) (by rfl) (by rfl) (by rfl)).blw bl5 (by omega) (by omega) (by omega) (by omega));clear v3 vf;obtain ⟨_,_,_,v3⟩:=of4s (uh P7).x5;have vf:∀ o,w6.frozen? ⟨w1.heap.size,o,none⟩=false:=(fun o=>(by unfold World.frozen?;simp [(uh P7).x5]));clear o5 bl5)
    | (go_simp;go_at_call 127;refine (pair_any2 w0 hG g R pv hpv _ ((uh HW).trans (gr_below (uh PV _ (by rfl) (by rfl) (by rfl) (by rfl)).gr hg0 (uh HW).size)) hg0 (uh PV _ (by rfl) (by rfl) (by rfl) (by rfl)).rd (by omega)).mono ?_;rintro e w5 ⟨rfl,hs⟩;have p5:=(uh PV _ (by rfl) (by rfl) (by rfl) (by rfl)).step hs h1 h2;have o5:=own_gr (own_heap (by rfl) (uh OW)) hs.gr (show g < w1.heap.size + 1 by omega);have O6:=hide (OwnK.below o5 ((Below.refl w5.heap.size w5).alloc (Nat.le_refl _) (.cells #[.string pv.1,.int .i64 pv.2.1,.int .i64 pv.2.2.1,.string pv.2.2.2] 78)));have S6:=hide (one_pair w5 pv).src;have PV6:=hide (fun V e1 e2 e3 e4=>(p5.below (bal (Below.refl _ _) (.cells #[.string pv.1,.int .i64 pv.2.1,.int .i64 pv.2.2.1,.string pv.2.2.2] 78))).like (W':=V) e1 e2 e3 e4);have Z6:=hide (show w1.heap.size + 1<=w5.heap.size from heap_lt p5.x5);have zl:w1.heap.size < w5.heap.size:=heap_lt p5.x5;have zn:¬ w5.heap.size=w1.heap.size:=(by omega);have zm:¬ w1.heap.size=w5.heap.size:=(by omega);clear v3 vf;obtain ⟨_,_,_,v3⟩:=of4s p5.x5;have vf:∀ o,w5.frozen? ⟨w1.heap.size,o,none⟩=false:=(fun o=>(by unfold World.frozen?;simp [p5.x5]));clear hs p5 o5))
   all_goals
    have P8:=hide ((uh P7).s43 h2 h3 hle (.slice q5 (acc.length + 1) c5))
    have O8:=hide (own_putb (uh O7) (show w1.heap.size < w1.heap.size + 1 by omega) 3 (.slice q5 (acc.length + 1) c5))
    have hS8:=(uh P8).rd.sz
    clear v3 vf
    go_wp2
    go_roundw
    case rel=>exact ⟨acc ++ [pv],(nextW R).2,q5,c5,by omega,HA2,hide (by rw [List.length_append];exact uh P8),O8⟩
    case measure=>rw [hMs,hS8];exact hlt
end Go.Proofs.YtdgoibnndfibnaaGreatDoor
namespace Go.Proofs.YtdgoibnndfibnaaGreatDoor
open Go.RowKit Go.Sort
theorem OpS.s71 {w W:World} {g a b:Nat} {Z:Array Value} {v0 v1 v2 v3 v4 v5 v6:Value} {T:TypeId} {R:Bs} (h:OpS w W g a b Z #[v0,v1,v2,v3,v4,v5,v6] T R) (h2:g ≠ b) (h3:a ≠ b) (hw:w.heap.size<=b) (v:Value):OpS w (W.setCell ⟨b,1,none⟩ v) g a b Z #[v0,v,v2,v3,v4,v5,v6] T R:=by
 have:=h.set h2 h3 hw 1 v
 simpa using this
theorem OpS.s72 {w W:World} {g a b:Nat} {Z:Array Value} {v0 v1 v2 v3 v4 v5 v6:Value} {T:TypeId} {R:Bs} (h:OpS w W g a b Z #[v0,v1,v2,v3,v4,v5,v6] T R) (h2:g ≠ b) (h3:a ≠ b) (hw:w.heap.size<=b) (v:Value):OpS w (W.setCell ⟨b,2,none⟩ v) g a b Z #[v0,v1,v,v3,v4,v5,v6] T R:=by
 have:=h.set h2 h3 hw 2 v
 simpa using this
theorem OpS.s73 {w W:World} {g a b:Nat} {Z:Array Value} {v0 v1 v2 v3 v4 v5 v6:Value} {T:TypeId} {R:Bs} (h:OpS w W g a b Z #[v0,v1,v2,v3,v4,v5,v6] T R) (h2:g ≠ b) (h3:a ≠ b) (hw:w.heap.size<=b) (v:Value):OpS w (W.setCell ⟨b,3,none⟩ v) g a b Z #[v0,v1,v2,v,v4,v5,v6] T R:=by
 have:=h.set h2 h3 hw 3 v
 simpa using this
theorem OpS.s74 {w W:World} {g a b:Nat} {Z:Array Value} {v0 v1 v2 v3 v4 v5 v6:Value} {T:TypeId} {R:Bs} (h:OpS w W g a b Z #[v0,v1,v2,v3,v4,v5,v6] T R) (h2:g ≠ b) (h3:a ≠ b) (hw:w.heap.size<=b) (v:Value):OpS w (W.setCell ⟨b,4,none⟩ v) g a b Z #[v0,v1,v2,v3,v,v5,v6] T R:=by
 have:=h.set h2 h3 hw 4 v
 simpa using this
theorem OpS.s75 {w W:World} {g a b:Nat} {Z:Array Value} {v0 v1 v2 v3 v4 v5 v6:Value} {T:TypeId} {R:Bs} (h:OpS w W g a b Z #[v0,v1,v2,v3,v4,v5,v6] T R) (h2:g ≠ b) (h3:a ≠ b) (hw:w.heap.size<=b) (v:Value):OpS w (W.setCell ⟨b,5,none⟩ v) g a b Z #[v0,v1,v2,v3,v4,v,v6] T R:=by
 have:=h.set h2 h3 hw 5 v
 simpa using this
theorem OpS.s76 {w W:World} {g a b:Nat} {Z:Array Value} {v0 v1 v2 v3 v4 v5 v6:Value} {T:TypeId} {R:Bs} (h:OpS w W g a b Z #[v0,v1,v2,v3,v4,v5,v6] T R) (h2:g ≠ b) (h3:a ≠ b) (hw:w.heap.size<=b) (v:Value):OpS w (W.setCell ⟨b,6,none⟩ v) g a b Z #[v0,v1,v2,v3,v4,v5,v] T R:=by
 have:=h.set h2 h3 hw 6 v
 simpa using this
theorem own_put7 {α:Type} [Inhabited α] {enc:α->List Value} {e:TypeId} {k B M:Nat} {w:World} {q:Option Addr} {c:Nat} {l:List α} (h:OwnK enc e k B w q c l) (hM:M < B) {v0 v1 v2 v3 v4 v5 v6:Value}:OwnK enc e k B (((((((w.setCell ⟨M,0,none⟩ v0).setCell ⟨M,1,none⟩ v1).setCell ⟨M,2,none⟩ v2).setCell ⟨M,3,none⟩ v3).setCell ⟨M,4,none⟩ v4).setCell ⟨M,5,none⟩ v5).setCell ⟨M,6,none⟩ v6) q c l:=own_putb (own_putb (own_putb (own_put4 h hM) hM _ _) hM _ _) hM _ _
theorem own_put4b {α:Type} [Inhabited α] {enc:α->List Value} {e:TypeId} {k B M:Nat} {w:World} {q:Option Addr} {c:Nat} {l:List α} (h:OwnK enc e k B w q c l) (hM:M < B) {v0 v1 v2 v3:Value}:OwnK enc e k B ((((w.setCell ⟨M,2,none⟩ v0).setCell ⟨M,3,none⟩ v1).setCell ⟨M,4,none⟩ v2).setCell ⟨M,5,none⟩ v3) q c l:=own_putb (own_putb (own_putb (own_putb h hM _ _) hM _ _) hM _ _) hM _ _
theorem callRd_any (w0:World) (hG:G w0) (g:Nat) (L:Bs) (kind who:Int) (w:World) (hw:Below w0.heap.size w0 w) (hg0:w0.heap.size<=g) (h:Rd w g L) (hz:L.length<=1000000000000) :
  Calls Tryz.prog 102 #[.pointer (some ⟨g,0,none⟩)] w fun e w'=>(∃ q c,e=.returned (.agg #[.int .i64 (rdCall kind who L).ck,.int .i64 (rdCall kind who L).id,.string (rdCall kind who L).text,.slice q (rdCall kind who L).ev.length c])/\OwnK encQ 78 4 w.heap.size w' q c (rdCall kind who L).ev)/\∃ R,RdS w g R w':=by
 by_cases k1:kindOfW callW 4 (nextW L).1=1
 ·rw [show rdCall kind who L=⟨kind,who,1,0,unqV (nextW (nextW L).2).1,[],[]⟩ by unfold rdCall;simp [k1]]
  refine (callRd_1 w0 hG g L w hw hg0 h hz k1).mono ?_
  rintro e w' ⟨rfl,hs⟩
  exact ⟨⟨none,0,rfl,OwnK.nil _ _⟩,_,hs⟩
 by_cases k2:kindOfW callW 4 (nextW L).1=2
 ·rw [show rdCall kind who L=⟨kind,who,2,numAt (nextW L).2,unqV (nextW (nextW (nextW L).2).2).1,[],[]⟩ by unfold rdCall;simp [k2];rfl]
  refine (callRd_2 w0 hG g L w hw hg0 h hz k2).mono ?_
  rintro e w' ⟨rfl,hs⟩
  exact ⟨⟨none,0,rfl,OwnK.nil _ _⟩,_,hs⟩
 by_cases k3:kindOfW callW 4 (nextW L).1=3
 ·rw [show rdCall kind who L=⟨kind,who,3,numAt (nextW L).2,⟨#[]⟩,[],[]⟩ by unfold rdCall;simp [k3];rfl]
  refine (callRd_3 w0 hG g L w hw hg0 h hz k3).mono ?_
  rintro e w' ⟨rfl,hs⟩
  exact ⟨⟨none,0,rfl,OwnK.nil _ _⟩,_,hs⟩
 by_cases k4:kindOfW callW 4 (nextW L).1=4
 ·rw [show rdCall kind who L=⟨kind,who,4,0,⟨#[]⟩,readA rdPair (nextW L).2,[]⟩ by unfold rdCall;simp [k4]]
  refine (callRd_4 w0 hG g L w hw hg0 h hz k4).mono ?_
  rintro e w' ⟨⟨q,c,rfl,ho⟩,hs⟩
  exact ⟨⟨q,c,rfl,ho⟩,_,hs⟩
 ·rw [show rdCall kind who L=⟨kind,who,kindOfW callW 4 (nextW L).1,0,⟨#[]⟩,[],[]⟩ by unfold rdCall;simp [k1,k2,k3,k4]]
  refine (callRd_0 w0 hG g L w hw hg0 h hz k1 k2 k3 k4).mono ?_
  rintro e w' ⟨rfl,hs⟩
  exact ⟨⟨none,0,rfl,OwnK.nil _ _⟩,_,hs⟩
set_option maxHeartbeats 8000000 in
set_option maxRecDepth 100000 in
theorem opRd_call (w0:World) (hG:G w0) (g:Nat) (L:Bs) (s:ByteArray) (w:World) (hw:Below w0.heap.size w0 w) (hg0:w0.heap.size<=g) (h:Rd w g L) (hz:L.length<=1000000000000) (hk:kindOfW opW 7 (Lb s)=1) (o:Sop) (ho:rdCall 1 (numAt L) (nextW L).2=o) :
  Calls Tryz.prog 73 #[.pointer (some ⟨g,0,none⟩),.string s] w fun e w'=>(∃ q c,e=.returned (.agg #[.int .i64 1,.int .i64 (numAt L),.int .i64 o.ck,.int .i64 o.id,.string o.text,.slice q o.ev.length c,.slice none 0 0])/\OwnK encQ 78 4 w.heap.size w' q c o.ev)/\∃ R,RdS w g R w':=by
 have mixed:Tryz.prog.follows .mixedOrders=true:=by kernel_rfl
 have hK:=fun W=>kindOp_any s W
 rw [hk] at hK
 obtain ⟨X,HX⟩:∃ X,w.alloc (.cells #[.int .i64 0,.int .i64 0,.int .i64 0,.int .i64 0,.string ⟨#[]⟩,.slice none 0 0,.slice none 0 0] 42)=X:=⟨_,rfl⟩
 have bX:Below w.heap.size w X:=by rw [<- HX];exact (Below.refl _ _).alloc (Nat.le_refl _) _
 have hX:X.heap[w.heap.size]? = some (.cells #[.int .i64 0,.int .i64 0,.int .i64 0,.int .i64 0,.string ⟨#[]⟩,.slice none 0 0,.slice none 0 0] 42 (0,0)):=by rw [<- HX];exact box_new _ _
 obtain ⟨Y,HY⟩:∃ Y,X.alloc (.cells #[.int .i64 1,.int .i64 0,.int .i64 0,.int .i64 0,.string ⟨#[]⟩,.slice none 0 0,.slice none 0 0] 42)=Y:=⟨_,rfl⟩
 have bY:Below X.heap.size X Y:=by rw [<- HY];exact (Below.refl _ _).alloc (Nat.le_refl _) _
 have hY:Y.heap[X.heap.size]? = some (.cells #[.int .i64 1,.int .i64 0,.int .i64 0,.int .i64 0,.string ⟨#[]⟩,.slice none 0 0,.slice none 0 0] 42 (0,0)):=by rw [<- HY];exact box_new _ _
 have P0:=hide (show OpS w Y g w.heap.size X.heap.size #[.int .i64 0,.int .i64 0,.int .i64 0,.int .i64 0,.string ⟨#[]⟩,.slice none 0 0,.slice none 0 0] #[.int .i64 1,.int .i64 0,.int .i64 0,.int .i64 0,.string ⟨#[]⟩,.slice none 0 0,.slice none 0 0] 42 L from ⟨(h.on bX).on bY,gr_of (below_sub bX bY) _,blk_onS hX bY,hY⟩)
 have hgw:=h.lt
 have hzX:w.heap.size < X.heap.size:=heap_lt hX
 have h1:g ≠ w.heap.size:=Nat.ne_of_lt hgw
 have h2:g ≠ X.heap.size:=by omega
 have h3:w.heap.size ≠ X.heap.size:=by omega
 have h3':¬ X.heap.size=w.heap.size:=by omega
 have hle:=Nat.le_of_lt hzX
 have HW:=hide hw
 have HK:=hide hK
 have l1:=nextW_le L
 clear hX bX hY bY h hw hK hk
 obtain ⟨y0,y1,y2,y3,y4,y5,y6⟩:=of7s (uh P0).x5
 have yf:∀ o,Y.frozen? ⟨X.heap.size,o,none⟩=false:=(fun o=>(by unfold World.frozen?;simp [(uh P0).x5]))
 obtain ⟨z0,z1,z2,z3,z4,z5,z6⟩:=of7s (uh P0).x4
 have zf:∀ o,Y.frozen? ⟨w.heap.size,o,none⟩=false:=(fun o=>(by unfold World.frozen?;simp [(uh P0).x4]))
 have P1:=hide (((((((uh P0).s71 h2 h3 hle (.int .i64 0)).s72 h2 h3 hle (.int .i64 0)).s73 h2 h3 hle (.int .i64 0)).s74 h2 h3 hle (.string ⟨#[]⟩)).s75 h2 h3 hle (.slice none 0 0)).s76 h2 h3 hle (.slice none 0 0))
 clear P0
 go_enter Tryz.func73,Tryz.ntmps73
 go_wp2_with (first
  | (go_at_call 101;refine (uh HK _).mono ?_;rintro e w4 ⟨rfl,h4⟩;obtain rfl:=h4.symm)
  | (go_at_call 99;refine (number_any2 w0 hG g L _ ((uh HW).trans (gr_below (uh P1).gr hg0 (uh HW).size)) hg0 (uh P1).rd (by omega)).mono ?_;rintro e w5 ⟨rfl,hs⟩;have P5:=hide ((uh P1).step hs h1 h2);clear hs;clear y0 y1 y2 y3 y4 y5 y6 yf z0 z1 z2 z3 z4 z5 z6 zf;obtain ⟨y0,y1,y2,y3,y4,y5,y6⟩:=of7s (uh P5).x5;have yf:∀ o,w5.frozen? ⟨X.heap.size,o,none⟩=false:=(fun o=>(by unfold World.frozen?;simp [(uh P5).x5]));obtain ⟨z0,z1,z2,z3,z4,z5,z6⟩:=of7s (uh P5).x4;have zf:∀ o,w5.frozen? ⟨w.heap.size,o,none⟩=false:=(fun o=>(by unfold World.frozen?;simp [(uh P5).x4])))
  | (go_at_call 102;have P6:=hide ((uh P5).s71 h2 h3 hle (.int .i64 (numAt L)));refine (callRd_any w0 hG g (nextW L).2 1 (numAt L) _ ((uh HW).trans (gr_below (uh P6).gr hg0 (uh HW).size)) hg0 (uh P6).rd (by omega)).mono ?_;rw [ho];rintro e w7 ⟨⟨q,c,rfl,hown⟩,R,hs⟩;have P7:=hide ((uh P6).step hs h1 h2);have zu:=heap_lt (uh P6).x5;have OW:=hide hown;clear hs hown;clear y0 y1 y2 y3 y4 y5 y6 yf z0 z1 z2 z3 z4 z5 z6 zf;obtain ⟨y0,y1,y2,y3,y4,y5,y6⟩:=of7s (uh P7).x5;have yf:∀ o,w7.frozen? ⟨X.heap.size,o,none⟩=false:=(fun o=>(by unfold World.frozen?;simp [(uh P7).x5]));obtain ⟨z0,z1,z2,z3,z4,z5,z6⟩:=of7s (uh P7).x4;have zf:∀ o,w7.frozen? ⟨w.heap.size,o,none⟩=false:=(fun o=>(by unfold World.frozen?;simp [(uh P7).x4]))))
 have P8:=hide (((((uh P7).s72 h2 h3 hle (.int .i64 o.ck)).s73 h2 h3 hle (.int .i64 o.id)).s74 h2 h3 hle (.string o.text)).s75 h2 h3 hle (.slice q o.ev.length c))
 refine bodyPost_ret (v:=.agg #[.int .i64 1,.int .i64 (numAt L),.int .i64 o.ck,.int .i64 o.id,.string o.text,.slice q o.ev.length c,.slice none 0 0]) (by simp [results,Tryz.results73,go_sem,z0,z1,z2,z3,z4,z5,z6]) rfl ⟨⟨q,c,rfl, ?_⟩,R, ?_, ?_⟩
 ·exact OwnK.mono (own_put7 (own_put4b (uh OW) zu) (Nat.lt_trans hzX zu)) (Nat.le_of_lt (Nat.lt_trans hzX zu))
 ·exact ((((((((uh P8).rd.put h1 _ _).put h1 _ _).put h1 _ _).put h1 _ _).put h1 _ _).put h1 _ _).put h1 _ _)
 ·exact gr_put (gr_put (gr_put (gr_put (gr_put (gr_put (gr_put (uh P8).gr (Nat.le_refl _) _ _) (Nat.le_refl _) _ _) (Nat.le_refl _) _ _) (Nat.le_refl _) _ _) (Nat.le_refl _) _ _) (Nat.le_refl _) _ _) (Nat.le_refl _) _ _
/-- An op of the call's own: its rows lie from B on. -/
structure OpOwn (B:Nat) (w:World) (u:Ou) (o:Sop):Prop where
  kind:u.kind=o.kind
  who:u.who=o.who
  ck:u.ck=o.ck
  id:u.id=o.id
  text:u.text=o.text
  ne:u.ne=o.ev.length
  nn:u.nn=o.nums.length
  ev:OwnK encQ 78 4 B w u.qe u.ce o.ev
  nums:OwnK encI 3 1 B w u.qn u.cn o.nums
theorem OpOwn.oin {B:Nat} {w:World} {u:Ou} {o:Sop} (h:OpOwn B w u o):OpIn w u o:=⟨h.1,h.2,h.3,h.4,h.5,h.6,h.7,h.8.ls,h.9.ls⟩
theorem rdCall_parts (kind who:Int) (l:Bs):(rdCall kind who l).kind=kind/\(rdCall kind who l).who=who/\(rdCall kind who l).nums=[]:=by
 by_cases k1:kindOfW callW 4 (nextW l).1=1
 ·simp [rdCall,k1]
 by_cases k2:kindOfW callW 4 (nextW l).1=2
 ·simp [rdCall,k2]
 by_cases k3:kindOfW callW 4 (nextW l).1=3
 ·simp [rdCall,k3]
 by_cases k4:kindOfW callW 4 (nextW l).1=4
 ·simp [rdCall,k4]
 ·simp [rdCall,k1,k2,k3,k4]
theorem opRd_any (w0:World) (hG:G w0) (g:Nat) (L:Bs) (s:ByteArray) (w:World) (hw:Below w0.heap.size w0 w) (hg0:w0.heap.size<=g) (h:Rd w g L) (hz:L.length<=1000000000000) :
  Calls Tryz.prog 73 #[.pointer (some ⟨g,0,none⟩),.string s] w fun e w'=>(∃ u:Ou,e=.returned u.val/\OpOwn w.heap.size w' u (rdOp (Lb s) L))/\∃ R,RdS w g R w':=by
 by_cases hk:kindOfW opW 7 (Lb s)=1
 ·obtain ⟨o,ho⟩:∃ o,rdCall 1 (numAt L) (nextW L).2=o:=⟨_,rfl⟩
  have hr:rdOp (Lb s) L=o:=by unfold rdOp;simp only [hk,if_true];exact ho
  have hp:o.kind=1/\o.who=numAt L/\o.nums=[]:=by rw [<- ho];exact rdCall_parts _ _ _
  rw [hr]
  refine (opRd_call w0 hG g L s w hw hg0 h hz hk o ho).mono ?_
  rintro e w' ⟨⟨q,c,rfl,hown⟩,hs⟩
  exact ⟨⟨⟨1,numAt L,o.ck,o.id,o.text,q,o.ev.length,c,none,0,0⟩,rfl,hp.1.symm,hp.2.1.symm,rfl,rfl,rfl,rfl,by rw [hp.2.2];rfl,hown,by rw [hp.2.2];exact OwnK.nil _ _⟩,hs⟩
 ·have hr:rdOp (Lb s) L=⟨kindOfW opW 7 (Lb s),0,0,0,⟨#[]⟩,[],readA atoiN L⟩:=by unfold rdOp;simp [hk]
  rw [hr]
  refine (opRd_else w0 hG g L s w hw hg0 h hz hk).mono ?_
  rintro e w' ⟨⟨q,c,rfl,hown⟩,hs⟩
  exact ⟨⟨⟨kindOfW opW 7 (Lb s),0,0,0,⟨#[]⟩,none,0,0,q,(readA atoiN L).length,c⟩,rfl,rfl,rfl,rfl,rfl,rfl,rfl,rfl,OwnK.nil _ _,hown⟩,_,hs⟩
end Go.Proofs.YtdgoibnndfibnaaGreatDoor

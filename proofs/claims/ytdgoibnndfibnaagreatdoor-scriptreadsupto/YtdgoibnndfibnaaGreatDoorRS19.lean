/- The reader: an op that is no call. -/
import Derived.Test.YtdgoibnndfibnaaGreatDoorRZan
namespace Go.Proofs.YtdgoibnndfibnaaGreatDoor
open Go.RowKit Go.Sort
theorem own_heap {α:Type} [Inhabited α] {enc:α->List Value} {e:TypeId} {k B:Nat} {w w':World} {q:Option Addr} {c:Nat} {l:List α} (h:w'.heap=w.heap) (ho:OwnK enc e k B w q c l):OwnK enc e k B w' q c l:=by
 unfold OwnK World.ownsRow at *
 rw [h]
 exact ho
theorem src_heap {α:Type} [Inhabited α] {enc:α->List Value} {k:Nat} {w w':World} {q:Option Addr} {c:Nat} {l:List α} (h:w'.heap=w.heap) (ho:SrcK enc k w q c l):SrcK enc k w' q c l:=by
 refine ⟨ho.1,fun ad e j u hj=>?_⟩
 have:=ho.2 ad e j u hj
 unfold World.cell? at *
 rw [h]
 exact this
theorem own_gr {α:Type} [Inhabited α] {enc:α->List Value} {e:TypeId} {k B g:Nat} {w w':World} {q:Option Addr} {c:Nat} {l:List α} (h:OwnK enc e k B w q c l) (hg:w.grownBy w' (some g)) (hlt:g < B):OwnK enc e k B w' q c l:=by
 refine ⟨h.1, ?_⟩
 rcases h.2 with h0 | ⟨g',cp,cur,hv,hB,hblk,hr⟩
 ·exact Or.inl h0
 ·exact Or.inr ⟨g',cp,cur,hv,hB,(hg.block g' (heap_lt hblk) (by intro e;injection e with e;omega)).trans hblk,hr⟩
/-- Two boxes and the reader. -/
structure OpS (w W:World) (g a b:Nat) (Z V:Array Value) (T:TypeId) (R:Bs):Prop where
  rd:Rd W g R
  gr:w.grownBy W (some g)
  x4:W.heap[a]? = some (.cells Z T (0,0))
  x5:W.heap[b]? = some (.cells V T (0,0))
theorem OpS.like {w W W':World} {g a b:Nat} {Z V:Array Value} {T:TypeId} {R:Bs} (h:OpS w W g a b Z V T R) (e1:W'.heap=W.heap) (e2:W'.os=W.os) (e3:W'.tape=W.tape) (e4:W'.output=W.output):OpS w W' g a b Z V T R :=
 ⟨by unfold Rd;rw [e1];exact h.rd,⟨e2.trans h.gr.os,e3.trans h.gr.tape,e4.trans h.gr.output,by rw [e1];exact h.gr.size,by rw [e1];exact h.gr.block⟩,by rw [e1];exact h.x4,by rw [e1];exact h.x5⟩
theorem OpS.below {w W W':World} {g a b:Nat} {Z V:Array Value} {T:TypeId} {R:Bs} (h:OpS w W g a b Z V T R) (hb:Below W.heap.size W W'):OpS w W' g a b Z V T R:=⟨h.rd.on hb,h.gr.trans (gr_of hb _),blk_onS h.x4 hb,blk_onS h.x5 hb⟩
theorem OpS.blw {w W W':World} {g a b B:Nat} {Z V:Array Value} {T:TypeId} {R:Bs} (h:OpS w W g a b Z V T R) (hb:Below B W W') (h1:g < B) (h2:a < B) (h3:b < B) (h4:w.heap.size<=B):OpS w W' g a b Z V T R :=
 ⟨(hb.block _ h1).trans h.rd,⟨hb.os.trans h.gr.os,hb.tape.trans h.gr.tape,hb.output.trans h.gr.output,Nat.le_trans h.gr.size hb.size,fun k hk hne=>(hb.block k (by omega)).trans (h.gr.block k hk hne)⟩,(hb.block _ h2).trans h.x4,(hb.block _ h3).trans h.x5⟩
theorem OpS.step {w W W':World} {g a b:Nat} {Z V:Array Value} {T:TypeId} {R R':Bs} (h:OpS w W g a b Z V T R) (hs:RdS W g R' W') (h1:g ≠ a) (h2:g ≠ b):OpS w W' g a b Z V T R' :=
 ⟨hs.rd,h.gr.trans hs.gr,(hs.gr.block _ (heap_lt h.x4) (by intro e;injection e with e;exact h1 e.symm)).trans h.x4,(hs.gr.block _ (heap_lt h.x5) (by intro e;injection e with e;exact h2 e.symm)).trans h.x5⟩
theorem OpS.set {w W:World} {g a b:Nat} {Z V:Array Value} {T:TypeId} {R:Bs} (h:OpS w W g a b Z V T R) (h2:g ≠ b) (h3:a ≠ b) (hw:w.heap.size<=b) (i:Nat) (v:Value):OpS w (W.setCell ⟨b,i,none⟩ v) g a b Z (V.set! i v) T R :=
 ⟨h.rd.put h2 _ _,gr_put h.gr hw _ _,(Below.heap_setCell _ _ _ _ h3).trans h.x4,by have:=h.x5;simp [World.setCell,Array.getElem?_modify,this]⟩
theorem own_putb {α:Type} [Inhabited α] {enc:α->List Value} {e:TypeId} {k B M:Nat} {w:World} {q:Option Addr} {c:Nat} {l:List α} (h:OwnK enc e k B w q c l) (hM:M < B) (o:Nat) (v:Value):OwnK enc e k B (w.setCell ⟨M,o,none⟩ v) q c l:=own_gr h (gr_set (gr_refl _ _) o v) hM
theorem own_put {B M:Nat} {w:World} {q:Option Addr} {c:Nat} {l:List Int} (h:OwnK encI 3 1 B w q c l) (hM:M < B) {v0 v1 v2 v3 v4 v5 v6:Value}:OwnK encI 3 1 B (((((((w.setCell ⟨M,0,none⟩ v0).setCell ⟨M,1,none⟩ v1).setCell ⟨M,2,none⟩ v2).setCell ⟨M,3,none⟩ v3).setCell ⟨M,4,none⟩ v4).setCell ⟨M,5,none⟩ v5).setCell ⟨M,6,none⟩ v6) q c l:=own_putb (own_putb (own_putb (own_putb (own_putb (own_putb (own_putb h hM _ _) hM _ _) hM _ _) hM _ _) hM _ _) hM _ _) hM _ _
def strSz:Value->Nat
 | .string s=>s.size
 | _=>0
theorem strSz_mk (L:Bs):strSz (.string ⟨L.toArray⟩)=L.length:=ba_size L
theorem Rd.sz {w:World} {g:Nat} {L:Bs} (h:Rd w g L):strSz ((w.cell? ⟨g,0,none⟩).getD undef)=L.length:=by rw [h.cell];exact strSz_mk L
set_option maxHeartbeats 8000000 in
set_option maxRecDepth 100000 in
theorem opRd_else (w0:World) (hG:G w0) (g:Nat) (L:Bs) (s:ByteArray) (w:World) (hw:Below w0.heap.size w0 w) (hg0:w0.heap.size<=g) (h:Rd w g L) (hz:L.length<=1000000000000) (hk:kindOfW opW 7 (Lb s) ≠ 1) :
  Calls Tryz.prog 73 #[.pointer (some ⟨g,0,none⟩),.string s] w fun e w'=>(∃ q c,e=.returned (.agg #[.int .i64 (kindOfW opW 7 (Lb s)),.int .i64 0,.int .i64 0,.int .i64 0,.string ⟨#[]⟩,.slice none 0 0,.slice q (readA atoiN L).length c])/\OwnK encI 3 1 w.heap.size w' q c (readA atoiN L))/\RdS w g [] w':=by
 have mixed:Tryz.prog.follows .mixedOrders=true:=by kernel_rfl
 have hK:=fun W=>kindOp_any s W
 obtain ⟨kk,hkk⟩:∃ k,kindOfW opW 7 (Lb s)=k:=⟨_,rfl⟩
 rw [hkk] at hK hk ⊢
 have nk:(kk == 1)=false:=by simpa using hk
 obtain ⟨X,HX⟩:∃ X,w.alloc (.cells #[.int .i64 0,.int .i64 0,.int .i64 0,.int .i64 0,.string ⟨#[]⟩,.slice none 0 0,.slice none 0 0] 42)=X:=⟨_,rfl⟩
 have bX:Below w.heap.size w X:=by rw [<- HX];exact (Below.refl _ _).alloc (Nat.le_refl _) _
 have hX:X.heap[w.heap.size]? = some (.cells #[.int .i64 0,.int .i64 0,.int .i64 0,.int .i64 0,.string ⟨#[]⟩,.slice none 0 0,.slice none 0 0] 42 (0,0)):=by rw [<- HX];exact box_new _ _
 obtain ⟨Y,HY⟩:∃ Y,X.alloc (.cells #[.int .i64 kk,.int .i64 0,.int .i64 0,.int .i64 0,.string ⟨#[]⟩,.slice none 0 0,.slice none 0 0] 42)=Y:=⟨_,rfl⟩
 have bY:Below X.heap.size X Y:=by rw [<- HY];exact (Below.refl _ _).alloc (Nat.le_refl _) _
 have hY:Y.heap[X.heap.size]? = some (.cells #[.int .i64 kk,.int .i64 0,.int .i64 0,.int .i64 0,.string ⟨#[]⟩,.slice none 0 0,.slice none 0 0] 42 (0,0)):=by rw [<- HY];exact box_new _ _
 have hI0:OpS w Y g w.heap.size X.heap.size #[.int .i64 0,.int .i64 0,.int .i64 0,.int .i64 0,.string ⟨#[]⟩,.slice none 0 0,.slice none 0 0] #[.int .i64 kk,.int .i64 0,.int .i64 0,.int .i64 0,.string ⟨#[]⟩,.slice none 0 0,.slice none 0 0] 42 L:=⟨(h.on bX).on bY,gr_of (below_sub bX bY) _,blk_onS hX bY,hY⟩
 have hgw:=h.lt
 have hzX:w.heap.size < X.heap.size:=heap_lt hX
 have h1:g ≠ w.heap.size:=Nat.ne_of_lt hgw
 have h2:g ≠ X.heap.size:=by omega
 have h3:w.heap.size ≠ X.heap.size:=by omega
 have HI0:=hide hI0
 have HW:=hide hw
 have HK:=hide hK
 have hlen:=readA_len atoiN L.length L (Nat.le_refl _)
 clear hX bX hY bY hI0 h hw hK hkk hk
 obtain ⟨y0,y1,y2,y3,y4,y5,y6⟩:=of7s (uh HI0).x5
 have yf:∀ o,Y.frozen? ⟨X.heap.size,o,none⟩=false:=fun o=>by unfold World.frozen?;simp [(uh HI0).x5]
 have HJ:=hide (OpS.set (OpS.set (OpS.set (OpS.set (OpS.set (OpS.set (uh HI0) h2 h3 (Nat.le_of_lt hzX) 1 (.int .i64 0)) h2 h3 (Nat.le_of_lt hzX) 2 (.int .i64 0)) h2 h3 (Nat.le_of_lt hzX) 3 (.int .i64 0)) h2 h3 (Nat.le_of_lt hzX) 4 (.string ⟨#[]⟩)) h2 h3 (Nat.le_of_lt hzX) 5 (.slice none 0 0)) h2 h3 (Nat.le_of_lt hzX) 6 (.slice none 0 0))
 go_enter Tryz.func73,Tryz.ntmps73
 go_wp2_with (go_at_call 101;refine (uh HK _).mono ?_;rintro e w4 ⟨rfl,h4⟩;obtain rfl:=h4.symm)
 go_loopw [22] (fun _ wr=>∃ (acc:List Int) (R:Bs) (q:Option Addr) (c:Nat),R.length<=L.length/\Hid (acc ++ readA atoiN R=readA atoiN L)/\Hid (OpS w wr g w.heap.size X.heap.size #[.int .i64 0,.int .i64 0,.int .i64 0,.int .i64 0,.string ⟨#[]⟩,.slice none 0 0,.slice none 0 0] #[.int .i64 kk,.int .i64 0,.int .i64 0,.int .i64 0,.string ⟨#[]⟩,.slice none 0 0,.slice q acc.length c] 42 R)/\Hid (OwnK encI 3 1 (X.heap.size + 1) wr q c acc)) (fun _ wr=>strSz ((wr.cell? ⟨g,0,none⟩).getD undef))
 case atStart=>exact ⟨[],L,none,0,Nat.le_refl _,hide rfl,HJ,hide (OwnK.nil _ _)⟩
 case round =>
  clear HI0 HJ y0 y1 y2 y3 y4 y5 y6 yf
  obtain ⟨acc,R,q,c,hR,HA,HI,OW⟩:=hrel
  obtain ⟨U,rfl⟩:∃ U,U=wr:=⟨_,rfl⟩
  have hM:=more_any g R U (uh HI).rd
  have hMs:=(uh HI).rd.sz
  obtain ⟨_,_,_,_,_,_,v6⟩:=of7s (uh HI).x5
  have vf:∀ o,U.frozen? ⟨X.heap.size,o,none⟩=false:=fun o=>by unfold World.frozen?;simp [(uh HI).x5]
  by_cases hne:R=[]
  ·rw [show (!R.isEmpty)=false by rw [hne];rfl] at hM
   have HACC:=hide (show acc=readA atoiN L by have:=uh HA;rw [hne,readA_nil,List.append_nil] at this;exact this)
   have HRD:=hide (show Rd U g [] by have:=(uh HI).rd;rw [hne] at this;exact this)
   obtain ⟨m0,m1,m2,m3,m4,m5,m6⟩:=of7s (uh HI).x5
   obtain ⟨z0,z1,z2,z3,z4,z5,z6⟩:=of7s (uh HI).x4
   have zf:∀ o,U.frozen? ⟨w.heap.size,o,none⟩=false:=fun o=>by unfold World.frozen?;simp [(uh HI).x4]
   clear hne hMs v6
   go_wp2_with (go_at_call 103;refine hM.mono ?_;rintro e w5 ⟨rfl,h5⟩;obtain rfl:=h5.symm)
   refine bodyPost_ret (v:=.agg #[.int .i64 kk,.int .i64 0,.int .i64 0,.int .i64 0,.string ⟨#[]⟩,.slice none 0 0,.slice q acc.length c]) (by simp [results,Tryz.results73,go_sem,z0,z1,z2,z3,z4,z5,z6]) rfl ⟨⟨q,c,by rw [uh HACC], ?_⟩, ?_, ?_⟩
   ·rw [<- uh HACC]
    exact OwnK.mono (own_put (uh OW) (Nat.lt_succ_of_lt hzX)) (by omega)
   ·exact ((((((((uh HRD).put h1 _ _).put h1 _ _).put h1 _ _).put h1 _ _).put h1 _ _).put h1 _ _).put h1 _ _)
   ·exact gr_put (gr_put (gr_put (gr_put (gr_put (gr_put (gr_put (uh HI).gr (Nat.le_refl _) _ _) (Nat.le_refl _) _ _) (Nat.le_refl _) _ _) (Nat.le_refl _) _ _) (Nat.le_refl _) _ _) (Nat.le_refl _) _ _) (Nat.le_refl _) _ _
  ·have he:R.isEmpty=false:=by cases R with
    | nil=>exact absurd rfl hne
    | cons a b=>rfl
   rw [he] at hM
   have hst:=readA_step atoiN hne
   have hlt:=nextW_lt hne
   have HA2:=hide (show (acc ++ [numAt R]) ++ readA atoiN (nextW R).2=readA atoiN L by have:=uh HA;rw [hst] at this;rw [List.append_assoc];exact this)
   have hal:acc.length + 1<=1000000000000:=by
    have h9:=congrArg List.length (uh HA2)
    rw [List.length_append,List.length_append] at h9
    simp only [List.length_singleton] at h9
    omega
   have PV:=hide (fun V e1 e2 e3 e4=>(uh HI).like (W':=V) e1 e2 e3 e4)
   clear hne he hst
   go_wp2_with (go_at_call 103;refine hM.mono ?_;rintro e w5 ⟨rfl,h5⟩;obtain rfl:=h5.symm)
   go_region_law (first
    | (refine step_app rowI (by rfl) (.tmp 24) (.tmp 27) (by rfl) (X.heap.size + 1) q c acc (some ⟨w5.heap.size,0,none⟩) 1 [numAt R] acc.length 1 (acc.length + 1) rfl rfl rfl (by rfl) (by rfl) (own_heap (by rfl) (uh O6)) (src_heap (by rfl) (uh S6)) (by unfold maxLen;omega) (by omega) (by have:=uh Z6;simp;omega) ?_;intro q5 c5 w6 o5 bl5 _ _;have O7:=hide o5;have P7:=hide ((uh PV6 _ (by rfl) (by rfl) (by rfl) (by rfl)).blw bl5 (by omega) (by omega) (by omega) (by omega));clear v6 vf;obtain ⟨_,_,_,_,_,_,v6⟩:=of7s (uh P7).x5;have vf:∀ o,w6.frozen? ⟨X.heap.size,o,none⟩=false:=(fun o=>(by unfold World.frozen?;simp [(uh P7).x5]));clear o5 bl5)
    | (go_simp;go_at_call 99;refine (number_any2 w0 hG g R _ ((uh HW).trans (gr_below (uh PV _ (by rfl) (by rfl) (by rfl) (by rfl)).gr hg0 (uh HW).size)) hg0 (uh PV _ (by rfl) (by rfl) (by rfl) (by rfl)).rd (by omega)).mono ?_;rintro e w5 ⟨rfl,hs⟩;have p5:=(uh PV _ (by rfl) (by rfl) (by rfl) (by rfl)).step hs h1 h2;have o5:=own_gr (own_heap (by rfl) (uh OW)) hs.gr (show g < X.heap.size + 1 by omega);have O6:=hide (OwnK.below o5 ((Below.refl w5.heap.size w5).alloc (Nat.le_refl _) (.cells #[.int .i64 (numAt R)] 3)));have S6:=hide (one_int w5 (numAt R)).src;have PV6:=hide (fun V e1 e2 e3 e4=>(p5.below (bal (Below.refl _ _) (.cells #[.int .i64 (numAt R)] 3))).like (W':=V) e1 e2 e3 e4);have Z6:=hide (show X.heap.size + 1<=w5.heap.size from heap_lt p5.x5);have zl:X.heap.size < w5.heap.size:=heap_lt p5.x5;have zn:¬ w5.heap.size=X.heap.size:=(by omega);have zm:¬ X.heap.size=w5.heap.size:=(by omega);clear v6 vf;obtain ⟨_,_,_,_,_,_,v6⟩:=of7s p5.x5;have vf:∀ o,w5.frozen? ⟨X.heap.size,o,none⟩=false:=(fun o=>(by unfold World.frozen?;simp [p5.x5]));clear hs p5 o5))
   all_goals
    have P8:=hide ((uh P7).set h2 h3 (Nat.le_of_lt hzX) 6 (.slice q5 (acc.length + 1) c5))
    have O8:=hide (own_putb (uh O7) (show X.heap.size < X.heap.size + 1 by omega) 6 (.slice q5 (acc.length + 1) c5))
    have hS8:=(uh P8).rd.sz
    clear v6 vf
    go_wp2
    go_roundw
    case rel=>exact ⟨acc ++ [numAt R],(nextW R).2,q5,c5,by omega,HA2,hide (by rw [List.length_append];exact uh P8),O8⟩
    case measure=>rw [hMs,hS8];exact hlt
end Go.Proofs.YtdgoibnndfibnaaGreatDoor

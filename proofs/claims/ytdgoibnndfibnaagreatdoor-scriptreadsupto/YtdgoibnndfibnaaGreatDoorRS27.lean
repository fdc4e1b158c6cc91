/- A line is added: an op. -/
import Derived.Test.YtdgoibnndfibnaaGreatDoorRS26
namespace Go.Proofs.YtdgoibnndfibnaaGreatDoor
open Go.RowKit Go.Sort
theorem one_op (W:World) (u:Ou):SlOf encO 7 (W.alloc (.cells #[.int .i64 u.kind,.int .i64 u.who,.int .i64 u.ck,.int .i64 u.id,.string u.text,.slice u.qe u.ne u.ce,.slice u.qn u.nn u.cn] 42)) (some ⟨W.heap.size,0,none⟩) 1 [u]:=by
 refine ⟨fun h=>(by cases h),Nat.le_refl _,(by unfold maxLen;omega),LsOf.one (by simp) fun c hc=>?_⟩
 obtain ⟨x0,x1,x2,x3,x4,x5,x6⟩:=of7s (box_new W (.cells #[.int .i64 u.kind,.int .i64 u.who,.int .i64 u.ck,.int .i64 u.id,.string u.text,.slice u.qe u.ne u.ce,.slice u.qn u.nn u.cn] 42))
 obtain rfl | rfl | rfl | rfl | rfl | rfl | rfl:c=0 ∨ c=1 ∨ c=2 ∨ c=3 ∨ c=4 ∨ c=5 ∨ c=6:=by omega
 ·exact x0
 ·exact x1
 ·exact x2
 ·exact x3
 ·exact x4
 ·exact x5
 ·exact x6
theorem OpOwn.like {B:Nat} {w W':World} {u:Ou} {o:Sop} (h:OpOwn B w u o) (e1:W'.heap=w.heap) (e2:W'.os=w.os) (e3:W'.tape=w.tape) (e4:W'.output=w.output):OpOwn B W' u o:=h.below ⟨e2,e3,e4,by rw [e1];exact Nat.le_refl _,fun k _=>by rw [e1]⟩
theorem Rows.last {B:Nat} {w:World} {qa:Option Addr} {ca:Nat} {qo:Option Addr} {co:Nat} {us:List Ou} {u:Ou} {c:Cfg} {at':List (ByteArray × Int)} {os:List Sop} {o:Sop} (h:Rows B w qa ca qo co (us ++ [u]) ⟨c,at',os ++ [o]⟩):OpOwn B w u o:=by
 have hl:us.length=os.length:=by have:=h.ops.1;simp at this;exact this
 refine h.ops.2 us.length u o (by simp) ?_
 show (os ++ [o])[us.length]? = some o
 rw [hl];simp
theorem opRd_any2 (w0:World) (hG:G w0) (g:Nat) (L:Bs) (s:ByteArray) (w:World) (hw:Below w0.heap.size w0 w) (hg0:w0.heap.size<=g) (h:Rd w g L) (hz:L.length<=1000000000000) :
 Calls Tryz.prog 73 #[.pointer (some ⟨g,0,none⟩),.string s] w fun e w'=>(∃ u:Ou,e=.returned (.agg #[.int .i64 u.kind,.int .i64 u.who,.int .i64 u.ck,.int .i64 u.id,.string u.text,.slice u.qe u.ne u.ce,.slice u.qn u.nn u.cn])/\OpOwn w.heap.size w' u (rdOp (Lb s) L))/\∃ R,RdS w g R w':=opRd_any w0 hG g L s w hw hg0 h hz
set_option maxHeartbeats 8000000 in
set_option maxRecDepth 100000 in
theorem add_opA (w0:World) (hG:G w0) (sb:Nat) (s:Scr) (L:Bs) (w:World) (hw:Below w0.heap.size w0 w) (h0:w0.heap.size<=sb) (qa:Option Addr) (ca:Nat) (qo:Option Addr) (co:Nat) (us:List Ou) (hbx:w.heap[sb]? = some (.cells #[.int .i64 s.cfg.d,.int .i64 s.cfg.c,.int .i64 s.cfg.s,.int .i64 s.cfg.t,.int .i64 s.cfg.h,.int .i64 s.cfg.q,.int .i64 s.cfg.w,.int .i64 s.cfg.u,.slice qa s.attrs.length ca,.slice qo us.length co] 29 (0,0))) (hrw:Rows (sb + 1) w qa ca qo co us s) (hz:L.length<=100000000000) (line:ByteArray) (hl:line=⟨L.toArray⟩) (m:Int) (hm:(m == 1)=false) (n:Nat) (hn:n ≠ 1) (hk:(nextW L).1 ≠ wAttr) (hle:us.length<=4096) (hc:¬ us.length + 1<=4096) :
  Calls Tryz.prog 41 #[.pointer (some ⟨sb,0,none⟩),.int .i64 m,.string line] w fun e w'=>AddP w sb s n L e w':=by
 have mixed:Tryz.prog.follows .mixedOrders=true:=by kernel_rfl
 obtain ⟨X,HX⟩:∃ X,w.alloc (.cells #[.string line] 117)=X:=⟨_,rfl⟩
 have bX:Below w.heap.size w X:=by rw [<- HX];exact (Below.refl _ _).alloc (Nat.le_refl _) _
 have hX:X.heap[w.heap.size]? = some (.cells #[.string line] 117 (0,0)):=by rw [<- HX];exact box_new _ _
 have hRd:Rd X w.heap.size L:=by unfold Rd;rw [<- hl];exact hX
 have hN:=next_any w.heap.size L X hRd (by omega)
 obtain ⟨x,hx⟩:∃ x:ByteArray,(⟨(nextW L).1.toArray⟩:ByteArray)=x:=⟨_,rfl⟩
 rw [hx] at hN
 have hxl:Lb x=(nextW L).1:=by rw [<- hx,lb_mk]
 have hx2:(x.toList == ByteArray.toList ⟨#[97,116,116,114]⟩)=false:=by
  rw [beq_eq_false_iff_ne]
  intro h2
  have h3:=ba_ext h2
  exact hk (by rw [<- hxl,h3];rfl)
 rw [show ByteArray.toList ⟨#[97,116,116,114]⟩=[97,116,116,114] by first | rfl | decide | simp] at hx2
 have hC:=fun W hW hR=>opRd_any2 w0 hG w.heap.size (nextW L).2 x W hW (Nat.le_trans h0 (Nat.le_of_lt (heap_lt hbx))) hR (by have:=nextW_le L;omega)
 rw [hxl] at hC
 obtain ⟨o,ho⟩:∃ o,rdOp (nextW L).1 (nextW L).2=o:=⟨_,rfl⟩
 have hI:SopI o:=by rw [<- ho];exact rdOp_I _ _
 have hZ:OpZ o:=by
  rw [<- ho]
  have:=rdOp_len (nextW L).1 (nextW L).2
  have:=nextW_le L
  unfold OpZ
  omega
 rw [ho] at hC
 have hul:=hrw.ops.1
 have hOP:=fun (W:World) (u:Ou) (hu:OpIn W u o) (hW:G W)=>op_any hu hI hW hZ
 have hadd:addS s n L=none:=by
  unfold addS
  rw [if_neg hn,if_neg hk,if_neg (fun h=>hc (by rw [hul];exact h.1))]
 have k1:¬ (us.length:Int) + 1<=4096:=by omega
 have k2:decide ((us.length:Int) + 1<=4096)=false:=decide_eq_false k1
 obtain ⟨E,hE⟩:∃ E,opE o=E:=⟨_,rfl⟩
 rw [hE] at hOP
 obtain ⟨A,hA⟩:∃ A,opL o=A:=⟨_,rfl⟩
 rw [hA] at hOP
 clear hE hA hc
 have hsb:=heap_lt hbx
 have hwg:w0.heap.size<=w.heap.size:=hw.size
 have HN:=hide hN
 have HC:=hide hC
 have HOP:=hide hOP
 have HADD:=hide hadd
 have HBX:=hide hbx
 have HRW:=hide hrw
 have HB:=hide bX
 have HW:=hide hw
 have HG:=hide hG
 have n1:¬ w.heap.size=sb:=by omega
 clear hN hC hOP hX hRd hadd hbx hrw bX ho hl hk hx hxl hw hG hI hZ hul
 go_enter Tryz.func41,Tryz.ntmps41
 go_wp2_with (first
  | (go_at_call 70;refine (uh HN).mono ?_;rintro e w1 ⟨rfl,s1⟩;have R1:=hide s1;clear s1)
  | (go_at_call 73;refine (uh HC _ ((uh HW).trans ((below_tr (uh HB) (gr_below (uh R1).gr (Nat.le_refl _) (uh HB).size)).mono hwg)) (uh R1).rd).mono ?_;rintro e w2 ⟨⟨u,rfl,hu⟩,R,s2⟩;obtain ⟨Y,HY⟩:∃ Y,w2.alloc (.cells #[.int .i64 u.kind,.int .i64 u.who,.int .i64 u.ck,.int .i64 u.id,.string u.text,.slice u.qe u.ne u.ce,.slice u.qn u.nn u.cn] 42)=Y:=⟨_,rfl⟩;have bY:Below w2.heap.size w2 Y:=(by rw [<- HY];exact (Below.refl _ _).alloc (Nat.le_refl _) _);have hY:Y.heap[w2.heap.size]? = some (.cells #[.int .i64 u.kind,.int .i64 u.who,.int .i64 u.ck,.int .i64 u.id,.string u.text,.slice u.qe u.ne u.ce,.slice u.qn u.nn u.cn] 42 (0,0)):=(by rw [<- HY];exact box_new _ _);have hT:Below w.heap.size w w2:=below_tr (uh HB) (gr_below ((uh R1).gr.trans s2.gr) (Nat.le_refl _) (uh HB).size);have hT2:=below_sub hT bY;have P1:=hide (show AdS w Y sb #[.int .i64 s.cfg.d,.int .i64 s.cfg.c,.int .i64 s.cfg.s,.int .i64 s.cfg.t,.int .i64 s.cfg.h,.int .i64 s.cfg.q,.int .i64 s.cfg.w,.int .i64 s.cfg.u,.slice qa s.attrs.length ca,.slice qo us.length co] w2.heap.size #[.int .i64 u.kind,.int .i64 u.who,.int .i64 u.ck,.int .i64 u.id,.string u.text,.slice u.qe u.ne u.ce,.slice u.qn u.nn u.cn] 42 qa ca qo co us s from ⟨hT2.mono (Nat.le_of_lt hsb),blk_onS (uh HBX) hT2,hY,(uh HRW).below hT2⟩);have hwl:w.heap.size<=w2.heap.size:=hT.size;have hyl:w2.heap.size < Y.heap.size:=heap_lt hY;have d1:¬ w2.heap.size=sb:=(by omega);have d2:¬ Y.heap.size=sb:=(by omega);have d3:¬ Y.heap.size=w2.heap.size:=(by omega);have d4:sb < Y.heap.size:=(by omega);have d5:¬ sb=Y.heap.size:=(by omega);have d6:¬ w2.heap.size=Y.heap.size:=(by omega);have NE:=hide (show ∀ g,(Value.slice qo us.length co).ownBlock=some g->g ≠ w2.heap.size from fun g hg=>(by have:=(own_lt (uh HRW).op g hg).2;omega));have b6:Below Y.heap.size Y (Y.alloc (.cells #[.int .i64 u.kind,.int .i64 u.who,.int .i64 u.ck,.int .i64 u.id,.string u.text,.slice u.qe u.ne u.ce,.slice u.qn u.nn u.cn] 42)):=(Below.refl Y.heap.size Y).alloc (Nat.le_refl _) _;have hu2:OpOwn (sb + 1) (Y.alloc (.cells #[.int .i64 u.kind,.int .i64 u.who,.int .i64 u.ck,.int .i64 u.id,.string u.text,.slice u.qe u.ne u.ce,.slice u.qn u.nn u.cn] 42)) u o:=((hu.mono (Nat.le_trans hsb (Nat.le_trans (uh HB).size (uh R1).gr.size))).below bY).below b6;have O6:=hide ((uh P1).below b6).rows.op;have S6:=hide (one_op Y u).src;have PV6:=hide (fun V e1 e2 e3 e4=>((uh P1).below b6).like (W':=V) e1 e2 e3 e4);have UV6:=hide (fun V e1 e2 e3 e4=>hu2.like (W':=V) e1 e2 e3 e4);obtain ⟨c8,c9,sf⟩:=of10s (uh P1).box;obtain ⟨l0,l1,l2,l3,l4,l5,l6⟩:=of7s (uh P1).loc;clear s2 bY hY hT hT2 b6 hu hu2))
 go_region_law (refine step_app rowO (by rfl) (.tmp 78) (.tmp 80) (by rfl) (sb + 1) qo co us (some ⟨Y.heap.size,0,none⟩) 1 [u] us.length 1 (us.length + 1) rfl rfl rfl (by rfl) (by rfl) (own_heap (by rfl) (uh O6)) (src_heap (by rfl) (uh S6)) (by unfold maxLen;omega) (by omega) (by simp;omega) ?_;intro q5 c5 w6 o5 bl5 _ g5;have P7:=hide (((uh PV6) _ (by rfl) (by rfl) (by rfl) (by rfl)).appOp g5 o5 bl5 (uh NE) ((uh UV6) _ (by rfl) (by rfl) (by rfl) (by rfl)));clear c8 c9 sf l0 l1 l2 l3 l4 l5 l6 o5 bl5 g5;obtain ⟨c8,c9,sf⟩:=of10s (uh P7).box;obtain ⟨l0,l1,l2,l3,l4,l5,l6⟩:=of7s (uh P7).loc)
 all_goals
  go_wp2_with (go_at_call 13;have P8:=hide ((uh P7).set9 d1 (.slice q5 (us.length + 1) c5));refine (uh HOP _ u (uh P8).rows.last.oin (G_below (uh HG) ((uh HW).trans ((uh P8).bl.mono h0)))).mono ?_;rintro e w9 ⟨rfl,b9⟩;have P9:=hide ((uh P8).below b9);clear c8 c9 sf l0 l1 l2 l3 l4 l5 l6 b9;obtain ⟨c8,c9,sf⟩:=of10s (uh P9).box;obtain ⟨l0,l1,l2,l3,l4,l5,l6⟩:=of7s (uh P9).loc)
  go_ret
  exact ⟨by rw [uh HADD];rfl,(uh P9).bl,fun s' hs'=>by rw [uh HADD] at hs';cases hs'⟩
set_option maxHeartbeats 8000000 in
set_option maxRecDepth 100000 in
theorem add_opB (w0:World) (hG:G w0) (sb:Nat) (s:Scr) (L:Bs) (w:World) (hw:Below w0.heap.size w0 w) (h0:w0.heap.size<=sb) (qa:Option Addr) (ca:Nat) (qo:Option Addr) (co:Nat) (us:List Ou) (hbx:w.heap[sb]? = some (.cells #[.int .i64 s.cfg.d,.int .i64 s.cfg.c,.int .i64 s.cfg.s,.int .i64 s.cfg.t,.int .i64 s.cfg.h,.int .i64 s.cfg.q,.int .i64 s.cfg.w,.int .i64 s.cfg.u,.slice qa s.attrs.length ca,.slice qo us.length co] 29 (0,0))) (hrw:Rows (sb + 1) w qa ca qo co us s) (hz:L.length<=100000000000) (line:ByteArray) (hl:line=⟨L.toArray⟩) (m:Int) (hm:(m == 1)=false) (n:Nat) (hn:n ≠ 1) (hk:(nextW L).1 ≠ wAttr) (hle:us.length<=4096) (hc:us.length + 1<=4096) (hok:opOk (rdOp (nextW L).1 (nextW L).2)=false) :
  Calls Tryz.prog 41 #[.pointer (some ⟨sb,0,none⟩),.int .i64 m,.string line] w fun e w'=>AddP w sb s n L e w':=by
 have mixed:Tryz.prog.follows .mixedOrders=true:=by kernel_rfl
 obtain ⟨X,HX⟩:∃ X,w.alloc (.cells #[.string line] 117)=X:=⟨_,rfl⟩
 have bX:Below w.heap.size w X:=by rw [<- HX];exact (Below.refl _ _).alloc (Nat.le_refl _) _
 have hX:X.heap[w.heap.size]? = some (.cells #[.string line] 117 (0,0)):=by rw [<- HX];exact box_new _ _
 have hRd:Rd X w.heap.size L:=by unfold Rd;rw [<- hl];exact hX
 have hN:=next_any w.heap.size L X hRd (by omega)
 obtain ⟨x,hx⟩:∃ x:ByteArray,(⟨(nextW L).1.toArray⟩:ByteArray)=x:=⟨_,rfl⟩
 rw [hx] at hN
 have hxl:Lb x=(nextW L).1:=by rw [<- hx,lb_mk]
 have hx2:(x.toList == ByteArray.toList ⟨#[97,116,116,114]⟩)=false:=by
  rw [beq_eq_false_iff_ne]
  intro h2
  have h3:=ba_ext h2
  exact hk (by rw [<- hxl,h3];rfl)
 rw [show ByteArray.toList ⟨#[97,116,116,114]⟩=[97,116,116,114] by first | rfl | decide | simp] at hx2
 have hC:=fun W hW hR=>opRd_any2 w0 hG w.heap.size (nextW L).2 x W hW (Nat.le_trans h0 (Nat.le_of_lt (heap_lt hbx))) hR (by have:=nextW_le L;omega)
 rw [hxl] at hC
 obtain ⟨o,ho⟩:∃ o,rdOp (nextW L).1 (nextW L).2=o:=⟨_,rfl⟩
 have hI:SopI o:=by rw [<- ho];exact rdOp_I _ _
 have hZ:OpZ o:=by
  rw [<- ho]
  have:=rdOp_len (nextW L).1 (nextW L).2
  have:=nextW_le L
  unfold OpZ
  omega
 rw [ho] at hC hok
 have hul:=hrw.ops.1
 have hOP:=fun (W:World) (u:Ou) (hu:OpIn W u o) (hW:G W)=>op_any hu hI hW hZ
 have hadd:addS s n L=none:=by
  unfold addS
  rw [if_neg hn,if_neg hk,ho,if_neg (fun h=>by rw [hok] at h;exact absurd h.2.1 (by decide))]
 have k1:(us.length:Int) + 1<=4096:=by omega
 have k2:decide ((us.length:Int) + 1<=4096)=true:=decide_eq_true k1
 rw [show opE o=1 by unfold opE;rw [hok];rfl] at hOP
 obtain ⟨A,hA⟩:∃ A,opL o=A:=⟨_,rfl⟩
 rw [hA] at hOP
 clear hok hA
 have hsb:=heap_lt hbx
 have hwg:w0.heap.size<=w.heap.size:=hw.size
 have HN:=hide hN
 have HC:=hide hC
 have HOP:=hide hOP
 have HADD:=hide hadd
 have HBX:=hide hbx
 have HRW:=hide hrw
 have HB:=hide bX
 have HW:=hide hw
 have HG:=hide hG
 have n1:¬ w.heap.size=sb:=by omega
 clear hN hC hOP hX hRd hadd hbx hrw bX ho hl hk hx hxl hw hG hI hZ hul
 go_enter Tryz.func41,Tryz.ntmps41
 go_wp2_with (first
  | (go_at_call 70;refine (uh HN).mono ?_;rintro e w1 ⟨rfl,s1⟩;have R1:=hide s1;clear s1)
  | (go_at_call 73;refine (uh HC _ ((uh HW).trans ((below_tr (uh HB) (gr_below (uh R1).gr (Nat.le_refl _) (uh HB).size)).mono hwg)) (uh R1).rd).mono ?_;rintro e w2 ⟨⟨u,rfl,hu⟩,R,s2⟩;obtain ⟨Y,HY⟩:∃ Y,w2.alloc (.cells #[.int .i64 u.kind,.int .i64 u.who,.int .i64 u.ck,.int .i64 u.id,.string u.text,.slice u.qe u.ne u.ce,.slice u.qn u.nn u.cn] 42)=Y:=⟨_,rfl⟩;have bY:Below w2.heap.size w2 Y:=(by rw [<- HY];exact (Below.refl _ _).alloc (Nat.le_refl _) _);have hY:Y.heap[w2.heap.size]? = some (.cells #[.int .i64 u.kind,.int .i64 u.who,.int .i64 u.ck,.int .i64 u.id,.string u.text,.slice u.qe u.ne u.ce,.slice u.qn u.nn u.cn] 42 (0,0)):=(by rw [<- HY];exact box_new _ _);have hT:Below w.heap.size w w2:=below_tr (uh HB) (gr_below ((uh R1).gr.trans s2.gr) (Nat.le_refl _) (uh HB).size);have hT2:=below_sub hT bY;have P1:=hide (show AdS w Y sb #[.int .i64 s.cfg.d,.int .i64 s.cfg.c,.int .i64 s.cfg.s,.int .i64 s.cfg.t,.int .i64 s.cfg.h,.int .i64 s.cfg.q,.int .i64 s.cfg.w,.int .i64 s.cfg.u,.slice qa s.attrs.length ca,.slice qo us.length co] w2.heap.size #[.int .i64 u.kind,.int .i64 u.who,.int .i64 u.ck,.int .i64 u.id,.string u.text,.slice u.qe u.ne u.ce,.slice u.qn u.nn u.cn] 42 qa ca qo co us s from ⟨hT2.mono (Nat.le_of_lt hsb),blk_onS (uh HBX) hT2,hY,(uh HRW).below hT2⟩);have hwl:w.heap.size<=w2.heap.size:=hT.size;have hyl:w2.heap.size < Y.heap.size:=heap_lt hY;have d1:¬ w2.heap.size=sb:=(by omega);have d2:¬ Y.heap.size=sb:=(by omega);have d3:¬ Y.heap.size=w2.heap.size:=(by omega);have d4:sb < Y.heap.size:=(by omega);have d5:¬ sb=Y.heap.size:=(by omega);have d6:¬ w2.heap.size=Y.heap.size:=(by omega);have NE:=hide (show ∀ g,(Value.slice qo us.length co).ownBlock=some g->g ≠ w2.heap.size from fun g hg=>(by have:=(own_lt (uh HRW).op g hg).2;omega));have b6:Below Y.heap.size Y (Y.alloc (.cells #[.int .i64 u.kind,.int .i64 u.who,.int .i64 u.ck,.int .i64 u.id,.string u.text,.slice u.qe u.ne u.ce,.slice u.qn u.nn u.cn] 42)):=(Below.refl Y.heap.size Y).alloc (Nat.le_refl _) _;have hu2:OpOwn (sb + 1) (Y.alloc (.cells #[.int .i64 u.kind,.int .i64 u.who,.int .i64 u.ck,.int .i64 u.id,.string u.text,.slice u.qe u.ne u.ce,.slice u.qn u.nn u.cn] 42)) u o:=((hu.mono (Nat.le_trans hsb (Nat.le_trans (uh HB).size (uh R1).gr.size))).below bY).below b6;have O6:=hide ((uh P1).below b6).rows.op;have S6:=hide (one_op Y u).src;have PV6:=hide (fun V e1 e2 e3 e4=>((uh P1).below b6).like (W':=V) e1 e2 e3 e4);have UV6:=hide (fun V e1 e2 e3 e4=>hu2.like (W':=V) e1 e2 e3 e4);obtain ⟨c8,c9,sf⟩:=of10s (uh P1).box;obtain ⟨l0,l1,l2,l3,l4,l5,l6⟩:=of7s (uh P1).loc;clear s2 bY hY hT hT2 b6 hu hu2))
 go_region_law (refine step_app rowO (by rfl) (.tmp 78) (.tmp 80) (by rfl) (sb + 1) qo co us (some ⟨Y.heap.size,0,none⟩) 1 [u] us.length 1 (us.length + 1) rfl rfl rfl (by rfl) (by rfl) (own_heap (by rfl) (uh O6)) (src_heap (by rfl) (uh S6)) (by unfold maxLen;omega) (by omega) (by simp;omega) ?_;intro q5 c5 w6 o5 bl5 _ g5;have P7:=hide (((uh PV6) _ (by rfl) (by rfl) (by rfl) (by rfl)).appOp g5 o5 bl5 (uh NE) ((uh UV6) _ (by rfl) (by rfl) (by rfl) (by rfl)));clear c8 c9 sf l0 l1 l2 l3 l4 l5 l6 o5 bl5 g5;obtain ⟨c8,c9,sf⟩:=of10s (uh P7).box;obtain ⟨l0,l1,l2,l3,l4,l5,l6⟩:=of7s (uh P7).loc)
 all_goals
  go_wp2_with (go_at_call 13;have P8:=hide ((uh P7).set9 d1 (.slice q5 (us.length + 1) c5));refine (uh HOP _ u (uh P8).rows.last.oin (G_below (uh HG) ((uh HW).trans ((uh P8).bl.mono h0)))).mono ?_;rintro e w9 ⟨rfl,b9⟩;have P9:=hide ((uh P8).below b9);clear c8 c9 sf l0 l1 l2 l3 l4 l5 l6 b9;obtain ⟨c8,c9,sf⟩:=of10s (uh P9).box;obtain ⟨l0,l1,l2,l3,l4,l5,l6⟩:=of7s (uh P9).loc)
  go_ret
  exact ⟨by rw [uh HADD];rfl,(uh P9).bl,fun s' hs'=>by rw [uh HADD] at hs';cases hs'⟩
set_option maxHeartbeats 8000000 in
set_option maxRecDepth 100000 in
theorem add_opC (w0:World) (hG:G w0) (sb:Nat) (s:Scr) (L:Bs) (w:World) (hw:Below w0.heap.size w0 w) (h0:w0.heap.size<=sb) (qa:Option Addr) (ca:Nat) (qo:Option Addr) (co:Nat) (us:List Ou) (hbx:w.heap[sb]? = some (.cells #[.int .i64 s.cfg.d,.int .i64 s.cfg.c,.int .i64 s.cfg.s,.int .i64 s.cfg.t,.int .i64 s.cfg.h,.int .i64 s.cfg.q,.int .i64 s.cfg.w,.int .i64 s.cfg.u,.slice qa s.attrs.length ca,.slice qo us.length co] 29 (0,0))) (hrw:Rows (sb + 1) w qa ca qo co us s) (hz:L.length<=100000000000) (line:ByteArray) (hl:line=⟨L.toArray⟩) (m:Int) (hm:(m == 1)=false) (n:Nat) (hn:n ≠ 1) (hk:(nextW L).1 ≠ wAttr) (hle:us.length<=4096) (hc:us.length + 1<=4096) (hok:opOk (rdOp (nextW L).1 (nextW L).2)=true) (b:Bool) (hb:decide (lineB (rdOp (nextW L).1 (nextW L).2)=L)=b) :
  Calls Tryz.prog 41 #[.pointer (some ⟨sb,0,none⟩),.int .i64 m,.string line] w fun e w'=>AddP w sb s n L e w':=by
 have mixed:Tryz.prog.follows .mixedOrders=true:=by kernel_rfl
 obtain ⟨X,HX⟩:∃ X,w.alloc (.cells #[.string line] 117)=X:=⟨_,rfl⟩
 have bX:Below w.heap.size w X:=by rw [<- HX];exact (Below.refl _ _).alloc (Nat.le_refl _) _
 have hX:X.heap[w.heap.size]? = some (.cells #[.string line] 117 (0,0)):=by rw [<- HX];exact box_new _ _
 have hRd:Rd X w.heap.size L:=by unfold Rd;rw [<- hl];exact hX
 have hN:=next_any w.heap.size L X hRd (by omega)
 obtain ⟨x,hx⟩:∃ x:ByteArray,(⟨(nextW L).1.toArray⟩:ByteArray)=x:=⟨_,rfl⟩
 rw [hx] at hN
 have hxl:Lb x=(nextW L).1:=by rw [<- hx,lb_mk]
 have hx2:(x.toList == ByteArray.toList ⟨#[97,116,116,114]⟩)=false:=by
  rw [beq_eq_false_iff_ne]
  intro h2
  have h3:=ba_ext h2
  exact hk (by rw [<- hxl,h3];rfl)
 rw [show ByteArray.toList ⟨#[97,116,116,114]⟩=[97,116,116,114] by first | rfl | decide | simp] at hx2
 have hC:=fun W hW hR=>opRd_any2 w0 hG w.heap.size (nextW L).2 x W hW (Nat.le_trans h0 (Nat.le_of_lt (heap_lt hbx))) hR (by have:=nextW_le L;omega)
 rw [hxl] at hC
 obtain ⟨o,ho⟩:∃ o,rdOp (nextW L).1 (nextW L).2=o:=⟨_,rfl⟩
 have hI:SopI o:=by rw [<- ho];exact rdOp_I _ _
 have hZ:OpZ o:=by
  rw [<- ho]
  have:=rdOp_len (nextW L).1 (nextW L).2
  have:=nextW_le L
  unfold OpZ
  omega
 rw [ho] at hC hok hb
 have hul:=hrw.ops.1
 have hOP:=fun (W:World) (u:Ou) (hu:OpIn W u o) (hW:G W)=>op_any hu hI hW hZ
 have hadd:addS s n L=if b=true then some ⟨s.cfg,s.attrs,s.ops ++ [o]⟩ else none:=by
  unfold addS
  rw [if_neg hn,if_neg hk,ho]
  cases b with
  | true=>rw [if_pos ⟨by rw [<- hul];exact hc,hok,of_decide_eq_true hb⟩,if_pos rfl]
  | false=>rw [if_neg (fun h=>of_decide_eq_false hb h.2.2),if_neg (by decide)]
 have k1:(us.length:Int) + 1<=4096:=by omega
 have k2:decide ((us.length:Int) + 1<=4096)=true:=decide_eq_true k1
 rw [show opE o=0 by unfold opE;rw [hok];rfl] at hOP
 obtain ⟨A,hA⟩:∃ A,opL o=A:=⟨_,rfl⟩
 rw [hA] at hOP
 have e2:(A.toList == line.toList)=b:=by
  rw [<- hb]
  have hA2:A=⟨(lineB o).toArray⟩:=by rw [<- hA];unfold opL;rw [if_pos hok]
  by_cases he:lineB o=L
  ·rw [decide_eq_true he,hA2,hl,he];simp
  ·rw [decide_eq_false he,beq_eq_false_iff_ne]
   intro h2
   have h3:=ba_ext h2
   rw [hA2,hl] at h3
   exact he (by have:=congrArg Lb h3;rwa [lb_mk,lb_mk] at this)
 clear hok hA hb
 have hsb:=heap_lt hbx
 have hwg:w0.heap.size<=w.heap.size:=hw.size
 have HN:=hide hN
 have HC:=hide hC
 have HOP:=hide hOP
 have HADD:=hide hadd
 have HBX:=hide hbx
 have HRW:=hide hrw
 have HB:=hide bX
 have HW:=hide hw
 have HG:=hide hG
 have n1:¬ w.heap.size=sb:=by omega
 clear hN hC hOP hX hRd hadd hbx hrw bX ho hl hk hx hxl hw hG hI hZ hul
 go_enter Tryz.func41,Tryz.ntmps41
 go_wp2_with (first
  | (go_at_call 70;refine (uh HN).mono ?_;rintro e w1 ⟨rfl,s1⟩;have R1:=hide s1;clear s1)
  | (go_at_call 73;refine (uh HC _ ((uh HW).trans ((below_tr (uh HB) (gr_below (uh R1).gr (Nat.le_refl _) (uh HB).size)).mono hwg)) (uh R1).rd).mono ?_;rintro e w2 ⟨⟨u,rfl,hu⟩,R,s2⟩;obtain ⟨Y,HY⟩:∃ Y,w2.alloc (.cells #[.int .i64 u.kind,.int .i64 u.who,.int .i64 u.ck,.int .i64 u.id,.string u.text,.slice u.qe u.ne u.ce,.slice u.qn u.nn u.cn] 42)=Y:=⟨_,rfl⟩;have bY:Below w2.heap.size w2 Y:=(by rw [<- HY];exact (Below.refl _ _).alloc (Nat.le_refl _) _);have hY:Y.heap[w2.heap.size]? = some (.cells #[.int .i64 u.kind,.int .i64 u.who,.int .i64 u.ck,.int .i64 u.id,.string u.text,.slice u.qe u.ne u.ce,.slice u.qn u.nn u.cn] 42 (0,0)):=(by rw [<- HY];exact box_new _ _);have hT:Below w.heap.size w w2:=below_tr (uh HB) (gr_below ((uh R1).gr.trans s2.gr) (Nat.le_refl _) (uh HB).size);have hT2:=below_sub hT bY;have P1:=hide (show AdS w Y sb #[.int .i64 s.cfg.d,.int .i64 s.cfg.c,.int .i64 s.cfg.s,.int .i64 s.cfg.t,.int .i64 s.cfg.h,.int .i64 s.cfg.q,.int .i64 s.cfg.w,.int .i64 s.cfg.u,.slice qa s.attrs.length ca,.slice qo us.length co] w2.heap.size #[.int .i64 u.kind,.int .i64 u.who,.int .i64 u.ck,.int .i64 u.id,.string u.text,.slice u.qe u.ne u.ce,.slice u.qn u.nn u.cn] 42 qa ca qo co us s from ⟨hT2.mono (Nat.le_of_lt hsb),blk_onS (uh HBX) hT2,hY,(uh HRW).below hT2⟩);have hwl:w.heap.size<=w2.heap.size:=hT.size;have hyl:w2.heap.size < Y.heap.size:=heap_lt hY;have d1:¬ w2.heap.size=sb:=(by omega);have d2:¬ Y.heap.size=sb:=(by omega);have d3:¬ Y.heap.size=w2.heap.size:=(by omega);have d4:sb < Y.heap.size:=(by omega);have d5:¬ sb=Y.heap.size:=(by omega);have d6:¬ w2.heap.size=Y.heap.size:=(by omega);have NE:=hide (show ∀ g,(Value.slice qo us.length co).ownBlock=some g->g ≠ w2.heap.size from fun g hg=>(by have:=(own_lt (uh HRW).op g hg).2;omega));have b6:Below Y.heap.size Y (Y.alloc (.cells #[.int .i64 u.kind,.int .i64 u.who,.int .i64 u.ck,.int .i64 u.id,.string u.text,.slice u.qe u.ne u.ce,.slice u.qn u.nn u.cn] 42)):=(Below.refl Y.heap.size Y).alloc (Nat.le_refl _) _;have hu2:OpOwn (sb + 1) (Y.alloc (.cells #[.int .i64 u.kind,.int .i64 u.who,.int .i64 u.ck,.int .i64 u.id,.string u.text,.slice u.qe u.ne u.ce,.slice u.qn u.nn u.cn] 42)) u o:=((hu.mono (Nat.le_trans hsb (Nat.le_trans (uh HB).size (uh R1).gr.size))).below bY).below b6;have O6:=hide ((uh P1).below b6).rows.op;have S6:=hide (one_op Y u).src;have PV6:=hide (fun V e1 e2 e3 e4=>((uh P1).below b6).like (W':=V) e1 e2 e3 e4);have UV6:=hide (fun V e1 e2 e3 e4=>hu2.like (W':=V) e1 e2 e3 e4);obtain ⟨c8,c9,sf⟩:=of10s (uh P1).box;obtain ⟨l0,l1,l2,l3,l4,l5,l6⟩:=of7s (uh P1).loc;clear s2 bY hY hT hT2 b6 hu hu2))
 go_region_law (refine step_app rowO (by rfl) (.tmp 78) (.tmp 80) (by rfl) (sb + 1) qo co us (some ⟨Y.heap.size,0,none⟩) 1 [u] us.length 1 (us.length + 1) rfl rfl rfl (by rfl) (by rfl) (own_heap (by rfl) (uh O6)) (src_heap (by rfl) (uh S6)) (by unfold maxLen;omega) (by omega) (by simp;omega) ?_;intro q5 c5 w6 o5 bl5 _ g5;have P7:=hide (((uh PV6) _ (by rfl) (by rfl) (by rfl) (by rfl)).appOp g5 o5 bl5 (uh NE) ((uh UV6) _ (by rfl) (by rfl) (by rfl) (by rfl)));clear c8 c9 sf l0 l1 l2 l3 l4 l5 l6 o5 bl5 g5;obtain ⟨c8,c9,sf⟩:=of10s (uh P7).box;obtain ⟨l0,l1,l2,l3,l4,l5,l6⟩:=of7s (uh P7).loc)
 all_goals
  go_wp2_with (go_at_call 13;have P8:=hide ((uh P7).set9 d1 (.slice q5 (us.length + 1) c5));refine (uh HOP _ u (uh P8).rows.last.oin (G_below (uh HG) ((uh HW).trans ((uh P8).bl.mono h0)))).mono ?_;rintro e w9 ⟨rfl,b9⟩;have P9:=hide ((uh P8).below b9);clear c8 c9 sf l0 l1 l2 l3 l4 l5 l6 b9;obtain ⟨c8,c9,sf⟩:=of10s (uh P9).box;obtain ⟨l0,l1,l2,l3,l4,l5,l6⟩:=of7s (uh P9).loc)
  go_ret
  refine ⟨by rw [uh HADD];cases b <;> rfl,(uh P9).bl, ?_⟩
  intro s' hs'
  rw [uh HADD] at hs'
  cases b with
  | false=>cases hs'
  | true =>
   injection hs' with hs'
   subst hs'
   exact ⟨qa,ca,q5,c5,us ++ [u],by rw [show (us ++ [u]).length=us.length + 1 by simp];exact (uh P9).box,(uh P9).rows⟩
end Go.Proofs.YtdgoibnndfibnaaGreatDoor

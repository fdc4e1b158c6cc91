/- A line is added: an attribute. -/
import Derived.Test.YtdgoibnndfibnaaGreatDoorRZas
import Derived.Test.YtdgoibnndfibnaaGreatDoorRZat
namespace Go.Proofs.YtdgoibnndfibnaaGreatDoor
open Go.RowKit Go.Sort
theorem AdS.set8 {w W:World} {sb a:Nat} {a0 a1 a2 a3 a4 a5 a6 a7 a8 a9:Value} {Z:Array Value} {T:TypeId} {qa:Option Addr} {ca:Nat} {qo:Option Addr} {co:Nat} {us:List Ou} {s:Scr} (h:AdS w W sb #[a0,a1,a2,a3,a4,a5,a6,a7,a8,a9] a Z T qa ca qo co us s) (hne:¬ a=sb) (v:Value):AdS w (W.setCell ⟨sb,8,none⟩ v) sb #[a0,a1,a2,a3,a4,a5,a6,a7,v,a9] a Z T qa ca qo co us s:=by
 have:=h.set hne 8 v
 simpa using this
theorem AdS.set9 {w W:World} {sb a:Nat} {a0 a1 a2 a3 a4 a5 a6 a7 a8 a9:Value} {Z:Array Value} {T:TypeId} {qa:Option Addr} {ca:Nat} {qo:Option Addr} {co:Nat} {us:List Ou} {s:Scr} (h:AdS w W sb #[a0,a1,a2,a3,a4,a5,a6,a7,a8,a9] a Z T qa ca qo co us s) (hne:¬ a=sb) (v:Value):AdS w (W.setCell ⟨sb,9,none⟩ v) sb #[a0,a1,a2,a3,a4,a5,a6,a7,a8,v] a Z T qa ca qo co us s:=by
 have:=h.set hne 9 v
 simpa using this
theorem one_at (W:World) (a:ByteArray × Int):SlOf encAt 2 (W.alloc (.cells #[.string a.1,.int .i64 a.2] 62)) (some ⟨W.heap.size,0,none⟩) 1 [a]:=by
 refine ⟨fun h=>(by cases h),Nat.le_refl _,(by unfold maxLen;omega),LsOf.one (by simp) fun c hc=>?_⟩
 obtain ⟨x,y⟩:=of2s (box_new W (.cells #[.string a.1,.int .i64 a.2] 62))
 obtain rfl | rfl:c=0 ∨ c=1:=by omega
 ·exact x
 ·exact y
open Classical in
noncomputable def newE (l:List (ByteArray × Int)):Int:=if AtsOk l then 0 else if 64 < l.length then 2 else 1
theorem new_any2 (p:Option Addr) (cap:Nat) (l:List (ByteArray × Int)) (k:Nat) (hk:l.length=k) (w:World) (hl:k<=65) (hp:p=none->l.length=0/\cap=0) (hA:Sc.AtsOf w p l) (E:Int) (hE:newE l=E) :
  Calls Tryz.prog 25 #[.slice p k cap] w fun e w'=>(∃ r,e=.returned (.tuple #[.pointer r,.int .i64 E]))/\Below w.heap.size w w':=by
 subst hk;subst hE
 refine (Sc.new_any p cap l w (by omega) hp hA).mono ?_
 rintro e w' ⟨h,hb⟩
 refine ⟨?_,hb⟩
 unfold newE
 rcases h with ⟨h1,rfl⟩ | ⟨h1,h2,rfl⟩ | ⟨h1,h2,h3,b,l',rfl,_⟩
 ·rw [if_neg (fun h=>by have:=h.1;omega),if_pos h1]
  exact ⟨_,rfl⟩
 ·rw [if_neg (fun h=>h2 h.2),if_neg (by omega)]
  exact ⟨_,rfl⟩
 ·rw [if_pos ⟨h1,h2,h3⟩]
  exact ⟨_,rfl⟩
set_option maxHeartbeats 8000000 in
set_option maxRecDepth 100000 in
theorem add_atA (sb:Nat) (s:Scr) (L:Bs) (w:World) (qa:Option Addr) (ca:Nat) (qo:Option Addr) (co:Nat) (us:List Ou) (hbx:w.heap[sb]? = some (.cells #[.int .i64 s.cfg.d,.int .i64 s.cfg.c,.int .i64 s.cfg.s,.int .i64 s.cfg.t,.int .i64 s.cfg.h,.int .i64 s.cfg.q,.int .i64 s.cfg.w,.int .i64 s.cfg.u,.slice qa s.attrs.length ca,.slice qo us.length co] 29 (0,0))) (hrw:Rows (sb + 1) w qa ca qo co us s) (hz:L.length<=1000000000000) (line:ByteArray) (hl:line=⟨L.toArray⟩) (m:Int) (hm:(m == 1)=false) (n:Nat) (hn:n ≠ 1) (hk:(nextW L).1=wAttr) (hle:s.attrs.length<=64) (E:Int) (hE:newE (s.attrs ++ [rdAttr (nextW L).2])=E) (hc:((us.length:Int) == 0)=false) :
  Calls Tryz.prog 41 #[.pointer (some ⟨sb,0,none⟩),.int .i64 m,.string line] w fun e w'=>AddP w sb s n L e w':=by
 have mixed:Tryz.prog.follows .mixedOrders=true:=by kernel_rfl
 obtain ⟨X,HX⟩:∃ X,w.alloc (.cells #[.string line] 117)=X:=⟨_,rfl⟩
 have bX:Below w.heap.size w X:=by rw [<- HX];exact (Below.refl _ _).alloc (Nat.le_refl _) _
 have hX:X.heap[w.heap.size]? = some (.cells #[.string line] 117 (0,0)):=by rw [<- HX];exact box_new _ _
 have hRd:Rd X w.heap.size L:=by unfold Rd;rw [<- hl];exact hX
 have hN:=next_any w.heap.size L X hRd (by omega)
 rw [hk] at hN
 rw [show (⟨wAttr.toArray⟩:ByteArray)=⟨#[97,116,116,114]⟩ from rfl] at hN
 obtain ⟨a,ha⟩:∃ a,rdAttr (nextW L).2=a:=⟨_,rfl⟩
 have hC:=fun W hR=>attr_any w.heap.size (nextW L).2 W hR (by have:=nextW_le L;omega)
 rw [ha] at hC hE
 have hadd:addS s n L=none:=by
  unfold addS
  rw [if_neg hn,if_pos hk,ha,if_neg (fun h=>(by have h0:=h.1;rw [<- hrw.ops.1] at h0;rw [h0] at hc;exact absurd hc (by decide)))]
 have hsb:=heap_lt hbx
 have HN:=hide hN
 have HC:=hide hC
 have HE:=hide hE
 have HADD:=hide hadd
 have HBX:=hide hbx
 have HRW:=hide hrw
 have HB:=hide bX
 have n1:¬ w.heap.size=sb:=by omega
 clear hN hC hE hX hRd hadd hbx hrw bX ha hl hk
 go_enter Tryz.func41,Tryz.ntmps41
 go_wp2_with (first
  | (go_at_call 70;refine (uh HN).mono ?_;rintro e w1 ⟨rfl,s1⟩;have R1:=hide s1;clear s1)
  | (go_at_call 72;refine (uh HC _ (uh R1).rd).mono ?_;rintro e w2 ⟨rfl,s2⟩;obtain ⟨Y,HY⟩:∃ Y,w2.alloc (.cells #[.string a.1,.int .i64 a.2] 62)=Y:=⟨_,rfl⟩;have bY:Below w2.heap.size w2 Y:=(by rw [<- HY];exact (Below.refl _ _).alloc (Nat.le_refl _) _);have hY:Y.heap[w2.heap.size]? = some (.cells #[.string a.1,.int .i64 a.2] 62 (0,0)):=(by rw [<- HY];exact box_new _ _);have hT:Below w.heap.size w w2:=below_tr (uh HB) (gr_below ((uh R1).gr.trans s2.gr) (Nat.le_refl _) (uh HB).size);have hT2:=below_sub hT bY;have P1:=hide (show AdS w Y sb #[.int .i64 s.cfg.d,.int .i64 s.cfg.c,.int .i64 s.cfg.s,.int .i64 s.cfg.t,.int .i64 s.cfg.h,.int .i64 s.cfg.q,.int .i64 s.cfg.w,.int .i64 s.cfg.u,.slice qa s.attrs.length ca,.slice qo us.length co] w2.heap.size #[.string a.1,.int .i64 a.2] 62 qa ca qo co us s from ⟨hT2.mono (Nat.le_of_lt hsb),blk_onS (uh HBX) hT2,hY,(uh HRW).below hT2⟩);have hwl:w.heap.size<=w2.heap.size:=hT.size;have hyl:w2.heap.size < Y.heap.size:=heap_lt hY;have d1:¬ w2.heap.size=sb:=(by omega);have d2:¬ Y.heap.size=sb:=(by omega);have d3:¬ Y.heap.size=w2.heap.size:=(by omega);have d4:sb < Y.heap.size:=(by omega);have d5:¬ sb=Y.heap.size:=(by omega);have d6:¬ w2.heap.size=Y.heap.size:=(by omega);have NE:=hide (show ∀ g,(Value.slice qa s.attrs.length ca).ownBlock=some g->g ≠ w2.heap.size from fun g hg=>(by have:=(own_lt (uh HRW).at' g hg).2;omega));have b6:Below Y.heap.size Y (Y.alloc (.cells #[.string a.1,.int .i64 a.2] 62)):=(Below.refl Y.heap.size Y).alloc (Nat.le_refl _) _;have O6:=hide ((uh P1).below b6).rows.at';have S6:=hide (one_at Y a).src;have PV6:=hide (fun V e1 e2 e3 e4=>((uh P1).below b6).like (W':=V) e1 e2 e3 e4);obtain ⟨c8,c9,sf⟩:=of10s (uh P1).box;obtain ⟨l0,l1⟩:=of2s (uh P1).loc;clear s2 bY hY hT hT2 b6))
 go_region_law (refine step_app rowAt (by rfl) (.tmp 42) (.tmp 44) (by rfl) (sb + 1) qa ca s.attrs (some ⟨Y.heap.size,0,none⟩) 1 [a] s.attrs.length 1 (s.attrs.length + 1) rfl rfl rfl (by rfl) (by rfl) (own_heap (by rfl) (uh O6)) (src_heap (by rfl) (uh S6)) (by unfold maxLen;omega) (by omega) (by simp;omega) ?_;intro q5 c5 w6 o5 bl5 _ g5;have P7:=hide (((uh PV6) _ (by rfl) (by rfl) (by rfl) (by rfl)).appAt g5 o5 bl5 (uh NE));clear c8 c9 sf l0 l1 o5 bl5 g5;obtain ⟨c8,c9,sf⟩:=of10s (uh P7).box;obtain ⟨l0,l1⟩:=of2s (uh P7).loc)
 all_goals
  go_wp2_with (first
   | (go_at_call 25;have P8:=hide ((uh P7).set8 d1 (.slice q5 (s.attrs.length + 1) c5));refine (new_any2 q5 c5 (s.attrs ++ [a]) (s.attrs.length + 1) (by simp) _ (by omega) (uh P8).rows.at'.ls.1 (ats_own (uh P8).rows.at') _ (uh HE)).mono ?_;rintro e w9 ⟨⟨p9,rfl⟩,b9⟩;have P9:=hide ((uh P8).below b9);clear c8 c9 sf l0 l1 b9;obtain ⟨c8,c9,sf⟩:=of10s (uh P9).box;obtain ⟨l0,l1⟩:=of2s (uh P9).loc)
   | (go_at_call 27;refine (uh HAL _).mono ?_;rintro e w10 ⟨rfl,b10⟩))
  go_ret
  exact ⟨by rw [uh HADD];rfl,(uh P9).bl,fun s' hs'=>by rw [uh HADD] at hs';cases hs'⟩
set_option maxHeartbeats 8000000 in
set_option maxRecDepth 100000 in
theorem add_atB (sb:Nat) (s:Scr) (L:Bs) (w:World) (qa:Option Addr) (ca:Nat) (qo:Option Addr) (co:Nat) (hbx:w.heap[sb]? = some (.cells #[.int .i64 s.cfg.d,.int .i64 s.cfg.c,.int .i64 s.cfg.s,.int .i64 s.cfg.t,.int .i64 s.cfg.h,.int .i64 s.cfg.q,.int .i64 s.cfg.w,.int .i64 s.cfg.u,.slice qa s.attrs.length ca,.slice qo 0 co] 29 (0,0))) (hrw:Rows (sb + 1) w qa ca qo co [] s) (hz:L.length<=1000000000000) (line:ByteArray) (hl:line=⟨L.toArray⟩) (m:Int) (hm:(m == 1)=false) (n:Nat) (hn:n ≠ 1) (hk:(nextW L).1=wAttr) (hle:s.attrs.length<=64) (E:Int) (hE:newE (s.attrs ++ [rdAttr (nextW L).2])=E) (hc:(E == 0)=false) :
  Calls Tryz.prog 41 #[.pointer (some ⟨sb,0,none⟩),.int .i64 m,.string line] w fun e w'=>AddP w sb s n L e w':=by
 have mixed:Tryz.prog.follows .mixedOrders=true:=by kernel_rfl
 obtain ⟨X,HX⟩:∃ X,w.alloc (.cells #[.string line] 117)=X:=⟨_,rfl⟩
 have bX:Below w.heap.size w X:=by rw [<- HX];exact (Below.refl _ _).alloc (Nat.le_refl _) _
 have hX:X.heap[w.heap.size]? = some (.cells #[.string line] 117 (0,0)):=by rw [<- HX];exact box_new _ _
 have hRd:Rd X w.heap.size L:=by unfold Rd;rw [<- hl];exact hX
 have hN:=next_any w.heap.size L X hRd (by omega)
 rw [hk] at hN
 rw [show (⟨wAttr.toArray⟩:ByteArray)=⟨#[97,116,116,114]⟩ from rfl] at hN
 obtain ⟨a,ha⟩:∃ a,rdAttr (nextW L).2=a:=⟨_,rfl⟩
 have hC:=fun W hR=>attr_any w.heap.size (nextW L).2 W hR (by have:=nextW_le L;omega)
 rw [ha] at hC hE
 have hadd:addS s n L=none:=by
  unfold addS
  rw [if_neg hn,if_pos hk,ha,if_neg (fun h=>(by rw [<- hE,show newE (s.attrs ++ [a])=0 by unfold newE;rw [if_pos h.2.1]] at hc;exact absurd hc (by decide)))]
 have hsb:=heap_lt hbx
 have HN:=hide hN
 have HC:=hide hC
 have HE:=hide hE
 have HADD:=hide hadd
 have HBX:=hide hbx
 have HRW:=hide hrw
 have HB:=hide bX
 have n1:¬ w.heap.size=sb:=by omega
 clear hN hC hE hX hRd hadd hbx hrw bX ha hl hk
 go_enter Tryz.func41,Tryz.ntmps41
 go_wp2_with (first
  | (go_at_call 70;refine (uh HN).mono ?_;rintro e w1 ⟨rfl,s1⟩;have R1:=hide s1;clear s1)
  | (go_at_call 72;refine (uh HC _ (uh R1).rd).mono ?_;rintro e w2 ⟨rfl,s2⟩;obtain ⟨Y,HY⟩:∃ Y,w2.alloc (.cells #[.string a.1,.int .i64 a.2] 62)=Y:=⟨_,rfl⟩;have bY:Below w2.heap.size w2 Y:=(by rw [<- HY];exact (Below.refl _ _).alloc (Nat.le_refl _) _);have hY:Y.heap[w2.heap.size]? = some (.cells #[.string a.1,.int .i64 a.2] 62 (0,0)):=(by rw [<- HY];exact box_new _ _);have hT:Below w.heap.size w w2:=below_tr (uh HB) (gr_below ((uh R1).gr.trans s2.gr) (Nat.le_refl _) (uh HB).size);have hT2:=below_sub hT bY;have P1:=hide (show AdS w Y sb #[.int .i64 s.cfg.d,.int .i64 s.cfg.c,.int .i64 s.cfg.s,.int .i64 s.cfg.t,.int .i64 s.cfg.h,.int .i64 s.cfg.q,.int .i64 s.cfg.w,.int .i64 s.cfg.u,.slice qa s.attrs.length ca,.slice qo 0 co] w2.heap.size #[.string a.1,.int .i64 a.2] 62 qa ca qo co [] s from ⟨hT2.mono (Nat.le_of_lt hsb),blk_onS (uh HBX) hT2,hY,(uh HRW).below hT2⟩);have hwl:w.heap.size<=w2.heap.size:=hT.size;have hyl:w2.heap.size < Y.heap.size:=heap_lt hY;have d1:¬ w2.heap.size=sb:=(by omega);have d2:¬ Y.heap.size=sb:=(by omega);have d3:¬ Y.heap.size=w2.heap.size:=(by omega);have d4:sb < Y.heap.size:=(by omega);have d5:¬ sb=Y.heap.size:=(by omega);have d6:¬ w2.heap.size=Y.heap.size:=(by omega);have NE:=hide (show ∀ g,(Value.slice qa s.attrs.length ca).ownBlock=some g->g ≠ w2.heap.size from fun g hg=>(by have:=(own_lt (uh HRW).at' g hg).2;omega));have b6:Below Y.heap.size Y (Y.alloc (.cells #[.string a.1,.int .i64 a.2] 62)):=(Below.refl Y.heap.size Y).alloc (Nat.le_refl _) _;have O6:=hide ((uh P1).below b6).rows.at';have S6:=hide (one_at Y a).src;have PV6:=hide (fun V e1 e2 e3 e4=>((uh P1).below b6).like (W':=V) e1 e2 e3 e4);obtain ⟨c8,c9,sf⟩:=of10s (uh P1).box;obtain ⟨l0,l1⟩:=of2s (uh P1).loc;clear s2 bY hY hT hT2 b6))
 go_region_law (refine step_app rowAt (by rfl) (.tmp 42) (.tmp 44) (by rfl) (sb + 1) qa ca s.attrs (some ⟨Y.heap.size,0,none⟩) 1 [a] s.attrs.length 1 (s.attrs.length + 1) rfl rfl rfl (by rfl) (by rfl) (own_heap (by rfl) (uh O6)) (src_heap (by rfl) (uh S6)) (by unfold maxLen;omega) (by omega) (by simp;omega) ?_;intro q5 c5 w6 o5 bl5 _ g5;have P7:=hide (((uh PV6) _ (by rfl) (by rfl) (by rfl) (by rfl)).appAt g5 o5 bl5 (uh NE));clear c8 c9 sf l0 l1 o5 bl5 g5;obtain ⟨c8,c9,sf⟩:=of10s (uh P7).box;obtain ⟨l0,l1⟩:=of2s (uh P7).loc)
 all_goals
  go_wp2_with (first
   | (go_at_call 25;have P8:=hide ((uh P7).set8 d1 (.slice q5 (s.attrs.length + 1) c5));refine (new_any2 q5 c5 (s.attrs ++ [a]) (s.attrs.length + 1) (by simp) _ (by omega) (uh P8).rows.at'.ls.1 (ats_own (uh P8).rows.at') _ (uh HE)).mono ?_;rintro e w9 ⟨⟨p9,rfl⟩,b9⟩;have P9:=hide ((uh P8).below b9);clear c8 c9 sf l0 l1 b9;obtain ⟨c8,c9,sf⟩:=of10s (uh P9).box;obtain ⟨l0,l1⟩:=of2s (uh P9).loc)
   | (go_at_call 27;refine (uh HAL _).mono ?_;rintro e w10 ⟨rfl,b10⟩))
  go_ret
  exact ⟨by rw [uh HADD];rfl,(uh P9).bl,fun s' hs'=>by rw [uh HADD] at hs';cases hs'⟩
set_option maxHeartbeats 8000000 in
set_option maxRecDepth 100000 in
theorem add_atC (sb:Nat) (s:Scr) (L:Bs) (w:World) (qa:Option Addr) (ca:Nat) (qo:Option Addr) (co:Nat) (hbx:w.heap[sb]? = some (.cells #[.int .i64 s.cfg.d,.int .i64 s.cfg.c,.int .i64 s.cfg.s,.int .i64 s.cfg.t,.int .i64 s.cfg.h,.int .i64 s.cfg.q,.int .i64 s.cfg.w,.int .i64 s.cfg.u,.slice qa s.attrs.length ca,.slice qo 0 co] 29 (0,0))) (hrw:Rows (sb + 1) w qa ca qo co [] s) (hz:L.length<=1000000000000) (line:ByteArray) (hl:line=⟨L.toArray⟩) (m:Int) (hm:(m == 1)=false) (n:Nat) (hn:n ≠ 1) (hk:(nextW L).1=wAttr) (hle:s.attrs.length<=64) (hE:newE (s.attrs ++ [rdAttr (nextW L).2])=0) (b:Bool) (hb:decide (attrB (rdAttr (nextW L).2)=L)=b) :
  Calls Tryz.prog 41 #[.pointer (some ⟨sb,0,none⟩),.int .i64 m,.string line] w fun e w'=>AddP w sb s n L e w':=by
 have mixed:Tryz.prog.follows .mixedOrders=true:=by kernel_rfl
 obtain ⟨X,HX⟩:∃ X,w.alloc (.cells #[.string line] 117)=X:=⟨_,rfl⟩
 have bX:Below w.heap.size w X:=by rw [<- HX];exact (Below.refl _ _).alloc (Nat.le_refl _) _
 have hX:X.heap[w.heap.size]? = some (.cells #[.string line] 117 (0,0)):=by rw [<- HX];exact box_new _ _
 have hRd:Rd X w.heap.size L:=by unfold Rd;rw [<- hl];exact hX
 have hN:=next_any w.heap.size L X hRd (by omega)
 rw [hk] at hN
 rw [show (⟨wAttr.toArray⟩:ByteArray)=⟨#[97,116,116,114]⟩ from rfl] at hN
 obtain ⟨a,ha⟩:∃ a,rdAttr (nextW L).2=a:=⟨_,rfl⟩
 have hC:=fun W hR=>attr_any w.heap.size (nextW L).2 W hR (by have:=nextW_le L;omega)
 rw [ha] at hC hE hb
 have hok:AtsOk (s.attrs ++ [a]):=by
  by_cases h:AtsOk (s.attrs ++ [a])
  ·exact h
  ·unfold newE at hE
   rw [if_neg h] at hE
   split at hE
   ·exact absurd hE (by decide)
   ·exact absurd hE (by decide)
 have hops:s.ops.length=0:=by rw [<- hrw.ops.1];rfl
 have hadd:addS s n L=if b=true then some ⟨s.cfg,s.attrs ++ [a],s.ops⟩ else none:=by
  unfold addS
  rw [if_neg hn,if_pos hk,ha]
  cases b with
  | true=>rw [if_pos ⟨hops,hok,of_decide_eq_true hb⟩,if_pos rfl]
  | false=>rw [if_neg (fun h=>of_decide_eq_false hb h.2.2),if_neg (by decide)]
 have has:a.1.size<=140737488355328:=by
  rw [<- ha]
  unfold rdAttr
  rw [ba_size]
  have:=nextW_le1 (nextW L).2
  have:=nextW_le L
  omega
 obtain ⟨A,hA⟩:∃ A:ByteArray,(⟨(attrB a).toArray⟩:ByteArray)=A:=⟨_,rfl⟩
 have e2:(A.toList == line.toList)=b:=by
  rw [<- hb]
  by_cases he:attrB a=L
  ·rw [decide_eq_true he,<- hA,hl,he];simp
  ·rw [decide_eq_false he,beq_eq_false_iff_ne]
   intro h2
   have h3:=ba_ext h2
   rw [<- hA,hl] at h3
   exact he (by have:=congrArg Lb h3;rwa [lb_mk,lb_mk] at this)
 have hAL:=fun W=>attrLine_any a W has
 rw [hA] at hAL
 have HAL:=hide hAL
 clear hAL has hok hops hA hb
 have hsb:=heap_lt hbx
 have HN:=hide hN
 have HC:=hide hC
 have HE:=hide hE
 have HADD:=hide hadd
 have HBX:=hide hbx
 have HRW:=hide hrw
 have HB:=hide bX
 have n1:¬ w.heap.size=sb:=by omega
 clear hN hC hE hX hRd hadd hbx hrw bX ha hl hk
 go_enter Tryz.func41,Tryz.ntmps41
 go_wp2_with (first
  | (go_at_call 70;refine (uh HN).mono ?_;rintro e w1 ⟨rfl,s1⟩;have R1:=hide s1;clear s1)
  | (go_at_call 72;refine (uh HC _ (uh R1).rd).mono ?_;rintro e w2 ⟨rfl,s2⟩;obtain ⟨Y,HY⟩:∃ Y,w2.alloc (.cells #[.string a.1,.int .i64 a.2] 62)=Y:=⟨_,rfl⟩;have bY:Below w2.heap.size w2 Y:=(by rw [<- HY];exact (Below.refl _ _).alloc (Nat.le_refl _) _);have hY:Y.heap[w2.heap.size]? = some (.cells #[.string a.1,.int .i64 a.2] 62 (0,0)):=(by rw [<- HY];exact box_new _ _);have hT:Below w.heap.size w w2:=below_tr (uh HB) (gr_below ((uh R1).gr.trans s2.gr) (Nat.le_refl _) (uh HB).size);have hT2:=below_sub hT bY;have P1:=hide (show AdS w Y sb #[.int .i64 s.cfg.d,.int .i64 s.cfg.c,.int .i64 s.cfg.s,.int .i64 s.cfg.t,.int .i64 s.cfg.h,.int .i64 s.cfg.q,.int .i64 s.cfg.w,.int .i64 s.cfg.u,.slice qa s.attrs.length ca,.slice qo 0 co] w2.heap.size #[.string a.1,.int .i64 a.2] 62 qa ca qo co [] s from ⟨hT2.mono (Nat.le_of_lt hsb),blk_onS (uh HBX) hT2,hY,(uh HRW).below hT2⟩);have hwl:w.heap.size<=w2.heap.size:=hT.size;have hyl:w2.heap.size < Y.heap.size:=heap_lt hY;have d1:¬ w2.heap.size=sb:=(by omega);have d2:¬ Y.heap.size=sb:=(by omega);have d3:¬ Y.heap.size=w2.heap.size:=(by omega);have d4:sb < Y.heap.size:=(by omega);have d5:¬ sb=Y.heap.size:=(by omega);have d6:¬ w2.heap.size=Y.heap.size:=(by omega);have NE:=hide (show ∀ g,(Value.slice qa s.attrs.length ca).ownBlock=some g->g ≠ w2.heap.size from fun g hg=>(by have:=(own_lt (uh HRW).at' g hg).2;omega));have b6:Below Y.heap.size Y (Y.alloc (.cells #[.string a.1,.int .i64 a.2] 62)):=(Below.refl Y.heap.size Y).alloc (Nat.le_refl _) _;have O6:=hide ((uh P1).below b6).rows.at';have S6:=hide (one_at Y a).src;have PV6:=hide (fun V e1 e2 e3 e4=>((uh P1).below b6).like (W':=V) e1 e2 e3 e4);obtain ⟨c8,c9,sf⟩:=of10s (uh P1).box;obtain ⟨l0,l1⟩:=of2s (uh P1).loc;clear s2 bY hY hT hT2 b6))
 go_region_law (refine step_app rowAt (by rfl) (.tmp 42) (.tmp 44) (by rfl) (sb + 1) qa ca s.attrs (some ⟨Y.heap.size,0,none⟩) 1 [a] s.attrs.length 1 (s.attrs.length + 1) rfl rfl rfl (by rfl) (by rfl) (own_heap (by rfl) (uh O6)) (src_heap (by rfl) (uh S6)) (by unfold maxLen;omega) (by omega) (by simp;omega) ?_;intro q5 c5 w6 o5 bl5 _ g5;have P7:=hide (((uh PV6) _ (by rfl) (by rfl) (by rfl) (by rfl)).appAt g5 o5 bl5 (uh NE));clear c8 c9 sf l0 l1 o5 bl5 g5;obtain ⟨c8,c9,sf⟩:=of10s (uh P7).box;obtain ⟨l0,l1⟩:=of2s (uh P7).loc)
 all_goals
  go_wp2_with (first
   | (go_at_call 25;have P8:=hide ((uh P7).set8 d1 (.slice q5 (s.attrs.length + 1) c5));refine (new_any2 q5 c5 (s.attrs ++ [a]) (s.attrs.length + 1) (by simp) _ (by omega) (uh P8).rows.at'.ls.1 (ats_own (uh P8).rows.at') _ (uh HE)).mono ?_;rintro e w9 ⟨⟨p9,rfl⟩,b9⟩;have P9:=hide ((uh P8).below b9);clear c8 c9 sf l0 l1 b9;obtain ⟨c8,c9,sf⟩:=of10s (uh P9).box;obtain ⟨l0,l1⟩:=of2s (uh P9).loc)
   | (go_at_call 27;refine (uh HAL _).mono ?_;rintro e w10 ⟨rfl,b10⟩))
  go_ret
  refine ⟨by rw [uh HADD];cases b <;> rfl,below_tr (uh P9).bl (b10.mono (Nat.le_of_lt (heap_lt (uh P9).box))), ?_⟩
  intro s' hs'
  rw [uh HADD] at hs'
  cases b with
  | false=>cases hs'
  | true =>
   injection hs' with hs'
   subst hs'
   have p:=(uh P9).below b10
   exact ⟨q5,c5,qo,co,[],by rw [show (s.attrs ++ [a]).length=s.attrs.length + 1 by simp];exact p.box,p.rows⟩
end Go.Proofs.YtdgoibnndfibnaaGreatDoor

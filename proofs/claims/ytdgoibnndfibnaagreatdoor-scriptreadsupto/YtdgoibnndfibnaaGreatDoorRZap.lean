/- The lines of a config and of an attribute. -/
import Derived.Test.YtdgoibnndfibnaaGreatDoorRZao
namespace Go.Proofs.YtdgoibnndfibnaaGreatDoor
open Go.RowKit Go.Sort
theorem eight_int (W:World) (c:Cfg):SlOf encI 1 (W.alloc (.cells #[.int .i64 c.d,.int .i64 c.c,.int .i64 c.s,.int .i64 c.t,.int .i64 c.h,.int .i64 c.q,.int .i64 c.w,.int .i64 c.u] 3)) (some ⟨W.heap.size,0,none⟩) 8 c.l:=by
 obtain ⟨a0,a1,a2,a3,a4,a5,a6,a7⟩:=of8s (box_new W (.cells #[.int .i64 c.d,.int .i64 c.c,.int .i64 c.s,.int .i64 c.t,.int .i64 c.h,.int .i64 c.q,.int .i64 c.w,.int .i64 c.u] 3))
 refine ⟨fun h=>(by cases h),Nat.le_refl _,(by unfold maxLen;omega),fun _=>⟨W.heap.size,0,rfl,by simp,fun j u hj=>?_⟩⟩
 rw [Nat.zero_add]
 have hlt:j < 8:=by
  rw [Array.getElem?_toList] at hj
  obtain ⟨hs,_⟩:=Array.getElem?_eq_some_iff.1 hj
  simpa [Cfg.l] using hs
 obtain rfl | rfl | rfl | rfl | rfl | rfl | rfl | rfl:j=0 ∨ j=1 ∨ j=2 ∨ j=3 ∨ j=4 ∨ j=5 ∨ j=6 ∨ j=7:=by omega
 ·exact a0.trans ((flat_at (enc:=encI) (k:=1) (l:=c.l) (j:=0) (x:=c.d) rfl 0 (by decide)).symm.trans hj)
 ·exact a1.trans ((flat_at (enc:=encI) (k:=1) (l:=c.l) (j:=1) (x:=c.c) rfl 0 (by decide)).symm.trans hj)
 ·exact a2.trans ((flat_at (enc:=encI) (k:=1) (l:=c.l) (j:=2) (x:=c.s) rfl 0 (by decide)).symm.trans hj)
 ·exact a3.trans ((flat_at (enc:=encI) (k:=1) (l:=c.l) (j:=3) (x:=c.t) rfl 0 (by decide)).symm.trans hj)
 ·exact a4.trans ((flat_at (enc:=encI) (k:=1) (l:=c.l) (j:=4) (x:=c.h) rfl 0 (by decide)).symm.trans hj)
 ·exact a5.trans ((flat_at (enc:=encI) (k:=1) (l:=c.l) (j:=5) (x:=c.q) rfl 0 (by decide)).symm.trans hj)
 ·exact a6.trans ((flat_at (enc:=encI) (k:=1) (l:=c.l) (j:=6) (x:=c.w) rfl 0 (by decide)).symm.trans hj)
 ·exact a7.trans ((flat_at (enc:=encI) (k:=1) (l:=c.l) (j:=7) (x:=c.u) rfl 0 (by decide)).symm.trans hj)
theorem kindW_len (k:Int):(kindW k).length<=4:=by
 unfold kindW
 repeat' split
 all_goals decide
set_option maxHeartbeats 8000000 in
set_option maxRecDepth 100000 in
theorem configLine_any (c:Cfg) (w:World) (hG:G w) (hI:∀ n ∈ c.l,I64 n) :
  Calls Tryz.prog 26 #[c.val] w fun e w'=>e=.returned (.string ⟨(cfgB c).toArray⟩)/\Below w.heap.size w w':=by
 obtain ⟨X,HX⟩:∃ X,w.alloc (.cells #[.int .i64 c.d,.int .i64 c.c,.int .i64 c.s,.int .i64 c.t,.int .i64 c.h,.int .i64 c.q,.int .i64 c.w,.int .i64 c.u] 25)=X:=⟨_,rfl⟩
 have hwX:Below w.heap.size w X:=by rw [<- HX];exact (Below.refl _ _).alloc (Nat.le_refl _) _
 have hX:X.heap[w.heap.size]? = some (.cells #[.int .i64 c.d,.int .i64 c.c,.int .i64 c.s,.int .i64 c.t,.int .i64 c.h,.int .i64 c.q,.int .i64 c.w,.int .i64 c.u] 25 (0,0)):=by rw [<- HX];exact box_new _ _
 obtain ⟨x0,x1,x2,x3,x4,x5,x6,x7⟩:=of8s hX
 obtain ⟨Y,HY⟩:∃ Y,X.alloc (.cells #[.int .i64 c.d,.int .i64 c.c,.int .i64 c.s,.int .i64 c.t,.int .i64 c.h,.int .i64 c.q,.int .i64 c.w,.int .i64 c.u] 3)=Y:=⟨_,rfl⟩
 have hXY:Below X.heap.size X Y:=by rw [<- HY];exact (Below.refl _ _).alloc (Nat.le_refl _) _
 have hS:SlOf encI 1 Y (some ⟨X.heap.size,0,none⟩) 8 c.l:=by rw [<- HY];exact eight_int X c
 have hwY:=below_sub hwX hXY
 have hN:=numbered_any ⟨wConfig.toArray⟩ (some ⟨X.heap.size,0,none⟩) 8 c.l Y (G_below hG hwY) hI (by rw [ba_size];simp [wConfig,Cfg.l]) hS
 rw [show c.l.length=8 from rfl,lb_mk] at hN
 rw [show (⟨wConfig.toArray⟩:ByteArray)=⟨#[99,111,110,102,105,103]⟩ from rfl] at hN
 have HN:=hide hN
 have HB:=hide hwY
 clear hN hwY hS hXY hwX hX hG
 unfold Cfg.val
 go_enter Tryz.func26,Tryz.ntmps26
 go_wp2_with (go_at_call 55;refine (uh HN).mono ?_;rintro e w1 ⟨rfl,h1⟩)
 go_ret
 exact ⟨rfl,below_sub (uh HB) h1⟩
set_option maxHeartbeats 8000000 in
set_option maxRecDepth 100000 in
theorem attrLine_any (a:ByteArray × Int) (w:World) (hs:a.1.size<=140737488355328) :
  Calls Tryz.prog 27 #[.agg #[.string a.1,.int .i64 a.2]] w fun e w'=>e=.returned (.string ⟨(attrB a).toArray⟩)/\Below w.heap.size w w':=by
 obtain ⟨X,HX⟩:∃ X,w.alloc (.cells #[.string a.1,.int .i64 a.2] 62)=X:=⟨_,rfl⟩
 have hwX:Below w.heap.size w X:=by rw [<- HX];exact (Below.refl _ _).alloc (Nat.le_refl _) _
 have hX:X.heap[w.heap.size]? = some (.cells #[.string a.1,.int .i64 a.2] 62 (0,0)):=by rw [<- HX];exact box_new _ _
 have x0:X.cell? ⟨w.heap.size,0,none⟩=some (.string a.1):=by unfold World.cell?;simp [hX]
 have x1:X.cell? ⟨w.heap.size,1,none⟩=some (.int .i64 a.2):=by unfold World.cell?;simp [hX]
 have HB:=hide hwX
 have n1:¬ 9223372036854775807 < 5 + a.1.size:=by omega
 have n2:¬ 9223372036854775807 < 5 + a.1.size + 1:=by omega
 clear hwX hX
 go_enter Tryz.func27,Tryz.ntmps27
 go_wp2
 go_region_with (go_at_call 56;refine (kindWord_any a.2 _).mono ?_;rintro e w1 ⟨rfl,h1⟩;obtain rfl:=h1.symm;simp only;obtain ⟨K,hK⟩:∃ K:ByteArray,(⟨(kindW a.2).toArray⟩:ByteArray)=K:=⟨_,rfl⟩;rw [hK];have HK:=hide hK;have nk:K.size<=4:=(by rw [<- hK,ba_size];exact kindW_len a.2);have n3:¬ 9223372036854775807 < 5 + a.1.size + 1 + K.size:=(by omega);have n4:¬ 9223372036854775807 < 5 + (a.1.size + (1 + K.size)):=(by omega);clear hK)
 all_goals
  go_wp2
  go_ret
  refine ⟨ret_str2 ?_,(by first | exact uh HB | exact Below.drew (uh HB) | exact Below.drew (Below.drew (uh HB)))⟩
  have e:=uh HK
  rw [<- e]
  simp [attrB,wAttr,Lb]
end Go.Proofs.YtdgoibnndfibnaaGreatDoor
namespace Go.Proofs.YtdgoibnndfibnaaGreatDoor
open Go.RowKit Go.Sort
theorem I64_0:I64 0:=⟨by decide,by decide⟩
theorem atoiN_I64 (l:Bs):I64 (atoiN l):=by
 unfold atoiN
 cases hx:Go.Lib.atoiAll l with
 | ok v=>exact Go.Lib.atoiAll_bounds hx
 | «syntax»=>exact I64_0
 | range =>
  show I64 (Go.Lib.atoiSat l)
  unfold Go.Lib.atoiSat
  split
  ·exact ⟨by decide,by decide⟩
  ·exact ⟨by decide,by decide⟩
theorem mem_readW (f:Bs->Int) (hf:∀ l,I64 (f l)):∀ (k:Nat) (l:Bs),l.length<=k->∀ n ∈ readA f l,I64 n
 | 0,l,hk,n,hn=>by
  have:l=[]:=List.eq_nil_of_length_eq_zero (by omega)
  rw [this,readA_nil] at hn
  exact absurd hn (by simp)
 | k + 1,l,hk,n,hn=>by
  by_cases h:l=[]
  ·rw [h,readA_nil] at hn
   exact absurd hn (by simp)
  ·rw [readA_step f h] at hn
   have:=nextW_lt h
   rcases List.mem_cons.1 hn with rfl | h2
   ·exact hf _
   ·exact mem_readW f hf k _ (by omega) n h2
theorem rdCall_I (kind who:Int) (l:Bs) (h:I64 who):SopI (rdCall kind who l):=by
 have hp:=rdCall_parts kind who l
 refine ⟨by rw [hp.2.1];exact h, ?_,by rw [hp.2.2];intro n hn;simp at hn⟩
 have z:I64 0:=⟨by decide,by decide⟩
 by_cases k1:kindOfW callW 4 (nextW l).1=1
 ·simpa [rdCall,k1] using z
 by_cases k2:kindOfW callW 4 (nextW l).1=2
 ·simpa [rdCall,k2] using atoiN_I64 _
 by_cases k3:kindOfW callW 4 (nextW l).1=3
 ·simpa [rdCall,k3] using atoiN_I64 _
 by_cases k4:kindOfW callW 4 (nextW l).1=4
 ·simpa [rdCall,k4] using z
 ·simpa [rdCall,k1,k2,k3,k4] using z
theorem rdOp_I (w l:Bs):SopI (rdOp w l):=by
 by_cases h:kindOfW opW 7 w=1
 ·rw [show rdOp w l=rdCall 1 (atoiN (nextW l).1) (nextW l).2 by unfold rdOp;simp only [h,if_true]]
  exact rdCall_I _ _ _ (atoiN_I64 _)
 ·rw [show rdOp w l=⟨kindOfW opW 7 w,0,0,0,⟨#[]⟩,[],readA atoiN l⟩ by unfold rdOp;simp [h]]
  exact ⟨I64_0,I64_0,mem_readW atoiN atoiN_I64 l.length l (Nat.le_refl _)⟩
theorem rdCall_len (kind who:Int) (l:Bs):(rdCall kind who l).ev.length<=l.length:=by
 have:=readA_len rdPair (nextW l).2.length (nextW l).2 (Nat.le_refl _)
 have h2:=nextW_le l
 by_cases k1:kindOfW callW 4 (nextW l).1=1
 ·simp [rdCall,k1]
 by_cases k2:kindOfW callW 4 (nextW l).1=2
 ·simp [rdCall,k2]
 by_cases k3:kindOfW callW 4 (nextW l).1=3
 ·simp [rdCall,k3]
 by_cases k4:kindOfW callW 4 (nextW l).1=4
 ·simp [rdCall,k4];omega
 ·simp [rdCall,k1,k2,k3,k4]
theorem rdOp_len (w l:Bs):(rdOp w l).ev.length<=l.length/\(rdOp w l).nums.length<=l.length:=by
 by_cases h:kindOfW opW 7 w=1
 ·rw [show rdOp w l=rdCall 1 (atoiN (nextW l).1) (nextW l).2 by unfold rdOp;simp only [h,if_true]]
  have:=rdCall_len 1 (atoiN (nextW l).1) (nextW l).2
  have h2:=nextW_le l
  rw [(rdCall_parts _ _ _).2.2]
  exact ⟨by omega,by simp⟩
 ·rw [show rdOp w l=⟨kindOfW opW 7 w,0,0,0,⟨#[]⟩,[],readA atoiN l⟩ by unfold rdOp;simp [h]]
  exact ⟨by simp,readA_len atoiN l.length l (Nat.le_refl _)⟩
theorem rdCfg_I (l:Bs):∀ n ∈ (rdCfg l).l,I64 n:=by
 intro n hn
 simp only [rdCfg,Cfg.l,List.mem_cons,List.not_mem_nil,or_false] at hn
 rcases hn with rfl | rfl | rfl | rfl | rfl | rfl | rfl | rfl <;> exact atoiN_I64 _
/-- A row stays while a block of another type turns. -/
theorem OwnK.ty {α:Type} [Inhabited α] {enc:α->List Value} {e T:TypeId} {k B g:Nat} {w w':World} {q:Option Addr} {c:Nat} {l:List α} {cur:Array Value} {cp:Nat × Nat} (h:OwnK enc e k B w q c l) (hg:w.grownBy w' (some g)) (hT:w.heap[g]? = some (.cells cur T cp)) (hne:e ≠ T):OwnK enc e k B w' q c l:=by
 refine ⟨h.1, ?_⟩
 rcases h.2 with h0 | ⟨g',cp',cur',hv,hB,hblk,hr⟩
 ·exact Or.inl h0
 ·refine Or.inr ⟨g',cp',cur',hv,hB,(hg.block g' (heap_lt hblk) ?_).trans hblk,hr⟩
  intro e2
  injection e2 with e2
  subst e2
  rw [hblk] at hT
  injection hT with hT
  injection hT with _ h2
  exact hne h2
/-- A row stays while another row, of another type, grows. -/
theorem OwnK.other {α β:Type} [Inhabited α] [Inhabited β] {enc:α->List Value} {enc2:β->List Value} {e e2:TypeId} {k k2 B B2:Nat} {w w':World} {q q2:Option Addr} {c c2:Nat} {l:List α} {l2:List β} (h:OwnK enc e k B w q c l) (h2:OwnK enc2 e2 k2 B2 w q2 c2 l2) (hg:w.grownBy w' (Value.slice q2 l2.length c2).ownBlock) (hne:e ≠ e2):OwnK enc e k B w' q c l:=by
 rcases h2.2 with h0 | ⟨g',cp',cur',hv,hB,hblk,hr⟩
 ·obtain ⟨h0,_⟩:=h0
  rw [h0] at hg
  refine ⟨h.1, ?_⟩
  rcases h.2 with h0 | ⟨g',cp',cur',hv,hB,hblk,hr⟩
  ·exact Or.inl h0
  ·exact Or.inr ⟨g',cp',cur',hv,hB,(hg.block g' (heap_lt hblk) (by intro e;cases e)).trans hblk,hr⟩
 ·rw [hv] at hg
  exact h.ty hg hblk hne
theorem OpOwn.below {B:Nat} {w w':World} {u:Ou} {o:Sop} (h:OpOwn B w u o) (hb:Below w.heap.size w w'):OpOwn B w' u o:=⟨h.1,h.2,h.3,h.4,h.5,h.6,h.7,h.8.below hb,h.9.below hb⟩
theorem OpOwn.mono {B B':Nat} {w:World} {u:Ou} {o:Sop} (h:OpOwn B w u o) (hb:B'<=B):OpOwn B' w u o:=⟨h.1,h.2,h.3,h.4,h.5,h.6,h.7,h.8.mono hb,h.9.mono hb⟩
theorem OpOwn.ty {B g:Nat} {T:TypeId} {w w':World} {u:Ou} {o:Sop} {cur:Array Value} {cp:Nat × Nat} (h:OpOwn B w u o) (hg:w.grownBy w' (some g)) (hT:w.heap[g]? = some (.cells cur T cp)) (h1:78 ≠ T) (h2:3 ≠ T):OpOwn B w' u o:=⟨h.1,h.2,h.3,h.4,h.5,h.6,h.7,h.8.ty hg hT h1,h.9.ty hg hT h2⟩
theorem OpOwn.other {β:Type} [Inhabited β] {enc2:β->List Value} {e2:TypeId} {k2 B B2:Nat} {w w':World} {q2:Option Addr} {c2:Nat} {l2:List β} {u:Ou} {o:Sop} (h:OpOwn B w u o) (h2:OwnK enc2 e2 k2 B2 w q2 c2 l2) (hg:w.grownBy w' (Value.slice q2 l2.length c2).ownBlock) (h3:78 ≠ e2) (h4:3 ≠ e2):OpOwn B w' u o:=⟨h.1,h.2,h.3,h.4,h.5,h.6,h.7,h.8.other h2 hg h3,h.9.other h2 hg h4⟩
/-- The ops of a list, one by one. -/
def OpsO (B:Nat) (w:World) (us:List Ou) (os:List Sop):Prop:=us.length=os.length/\∀ (j:Nat) (u:Ou) (o:Sop),us[j]? = some u->os[j]? = some o->OpOwn B w u o
theorem OpsO.map {B:Nat} {w w':World} {us:List Ou} {os:List Sop} (h:OpsO B w us os) (f:∀ u o,OpOwn B w u o->OpOwn B w' u o):OpsO B w' us os:=⟨h.1,fun j u o h1 h2=>f u o (h.2 j u o h1 h2)⟩
theorem OpsO.snoc {B:Nat} {w:World} {us:List Ou} {os:List Sop} {u:Ou} {o:Sop} (h:OpsO B w us os) (h1:OpOwn B w u o):OpsO B w (us ++ [u]) (os ++ [o]):=by
 refine ⟨by simp [h.1],fun j u' o' hu ho=>?_⟩
 by_cases hj:j < us.length
 ·rw [List.getElem?_append_left hj] at hu
  rw [List.getElem?_append_left (by rw [<- h.1];exact hj)] at ho
  exact h.2 j u' o' hu ho
 ·rw [List.getElem?_append_right (by omega)] at hu
  rw [List.getElem?_append_right (by rw [<- h.1];omega),<- h.1] at ho
  have:j - us.length=0:=by
   have:=(List.getElem?_eq_some_iff.1 hu).1
   simp at this
   omega
  rw [this] at hu ho
  simp at hu ho
  subst hu;subst ho
  exact h1
/-- A script that is being read: its box b, its rows from B on. -/
structure Rows (B:Nat) (w:World) (qa:Option Addr) (ca:Nat) (qo:Option Addr) (co:Nat) (us:List Ou) (s:Scr):Prop where
 at':OwnK encAt 62 2 B w qa ca s.attrs
 op:OwnK encO 42 7 B w qo co us
 ops:OpsO B w us s.ops
theorem Rows.below {B:Nat} {w w':World} {qa:Option Addr} {ca:Nat} {qo:Option Addr} {co:Nat} {us:List Ou} {s:Scr} (h:Rows B w qa ca qo co us s) (hb:Below w.heap.size w w'):Rows B w' qa ca qo co us s:=⟨h.1.below hb,h.2.below hb,h.3.map fun _ _ h=>h.below hb⟩
theorem Rows.ty {B g:Nat} {w w':World} {qa:Option Addr} {ca:Nat} {qo:Option Addr} {co:Nat} {us:List Ou} {s:Scr} {T:TypeId} {cur:Array Value} {cp:Nat × Nat} (h:Rows B w qa ca qo co us s) (hg:w.grownBy w' (some g)) (hT:w.heap[g]? = some (.cells cur T cp)) (h1:78 ≠ T) (h2:3 ≠ T) (h3:42 ≠ T) (h4:62 ≠ T):Rows B w' qa ca qo co us s:=⟨h.1.ty hg hT h4,h.2.ty hg hT h3,h.3.map fun _ _ h=>h.ty hg hT h1 h2⟩
theorem ats_own {B:Nat} {w:World} {q:Option Addr} {c:Nat} {l:List (ByteArray × Int)} (h:OwnK encAt 62 2 B w q c l):Sc.AtsOf w q l:=by
 intro h0
 obtain ⟨b,off,hq,hb,hc⟩:=(h.ls).2.2.2 h0
 refine ⟨b,off,hq,hb,fun j x hj=>⟨?_, ?_⟩⟩
 ·have:=hc (j * 2 + 0) _ (flat_at (enc:=encAt) (k:=2) hj 0 (by decide))
  simpa [Nat.add_assoc,encAt] using this
 ·have:=hc (j * 2 + 1) _ (flat_at (enc:=encAt) (k:=2) hj 1 (by decide))
  simpa [Nat.add_assoc,encAt] using this
end Go.Proofs.YtdgoibnndfibnaaGreatDoor

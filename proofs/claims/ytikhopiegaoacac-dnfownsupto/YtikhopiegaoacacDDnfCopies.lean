/- Copies of literals: what trommelmem's Lits and the law's copies return. -/
import Derived.Test.YtikhopiegaoacacDDnfExpand
import Derived.Test.YtikhopiegaoacacDLsOwn
namespace Go.Proofs.Ytikhopiegaoacac
open Go.RowKit Go.Sort

theorem memPred_lit (u:Lv) (l:Lt) (w:World) (h:LitIn w u l) (l1:l.ints.length≤1000000000) (l2:l.words.length≤1000000000) :
  Calls Try.prog 20 #[.agg #[.int .i64 u.kind,.string u.attr,.slice u.qi u.ni u.ci,.slice u.qw u.nw u.cw,.int .i64 u.lo,.int .i64 u.hi]] w fun e w'=>(∃ g1 k1 g2 k2,e=.returned (.agg #[.int .i64 u.kind,.string u.attr,.slice (some ⟨g1,0,none⟩) u.ni k1,.slice (some ⟨g2,0,none⟩) u.nw k2,.int .i64 u.lo,.int .i64 u.hi])∧LitFrom w' w.heap.size (⟨u.kind,u.attr,some ⟨g1,0,none⟩,u.ni,k1,some ⟨g2,0,none⟩,u.nw,k2,u.lo,u.hi,u.neg⟩:Lv) l)∧Below w.heap.size w w':=by
 obtain ⟨a1,a2,a3,a4,a5,a6,a7,a8,a9⟩:=h
 have:=memPred2 l.kind l.attr l.ints l.words l.lo l.hi u.qi u.ci u.qw u.cw w a8 a9 (by omega) (by omega)
 rw [a1,a2,a3,a4,a5,a6,a7]
 refine this.mono ?_
 rintro e w' ⟨⟨g1,k1,g2,k2,he,s1,m1,n1,s2,m2,n2,f1,f2⟩,hb⟩
 have o1:OwnK encI 3 1 w.heap.size w' (some ⟨g1,0,none⟩) k1 l.ints:=s1.own (by decide) (Nat.le_trans (Nat.le_add_right _ 2) m1) n1 f1
 have o2:OwnK encS 9 1 w.heap.size w' (some ⟨g2,0,none⟩) k2 l.words:=s2.own (by decide) (Nat.le_trans (Nat.le_add_right _ 2) m2) n2 f2
 exact ⟨⟨g1,k1,g2,k2,he,⟨rfl,rfl,rfl,rfl,rfl,rfl,rfl,o1.ls,o2.ls⟩,o1,o2⟩,hb⟩
theorem growL_snoc {w W w9:World} {q q9:Option Addr} {c c9 n B:Nat} {us:List Lv} {u:Lv} {ls:List Lt} {l:Lt} (hls:ls.length=n) (hn:us.length=n) (ho:OwnK encL 51 7 B w q c us) (hall:OffP B (fun x=>∀ (j:Nat) (u:Lv) (l:Lt),us[j]? = some u→ls[j]? = some l→LitFrom x B u l) (Value.slice q n c).ownBlock w) (bv:Below w.heap.size w W) (lf:LitFrom W w.heap.size u l)
  (ho9:OwnK encL 51 7 B w9 q9 c9 (us ++ [u])) (hb9:Below B W w9) (hg9:W.grownBy w9 (Value.slice q n c).ownBlock) (hor9:(Value.slice q9 (n + 1) c9).ownBlock=(Value.slice q n c).ownBlock ∨ (Value.slice q9 (n + 1) c9).ownBlock=some W.heap.size) (hB:B≤w.heap.size) :
  GrowL B w9 q9 c9 (n + 1) (ls ++ [l])∧Below B w w9:=by
 subst hn
 have hlt:∀ b,(Value.slice q us.length c).ownBlock=some b→b < w.heap.size:=fun b e=>(World.ownsRow.lt ho b e).2
 have hL:OffP B (fun x=>LitFrom x B u l) (Value.slice q us.length c).ownBlock W:=fun x hs hc=>(lf.up ⟨hs,fun b hb hlt2=>hc b (by omega) hlt2 fun e=>by have:=hlt b e.symm;omega⟩).mono (by omega)
 exact ⟨⟨by simp [hls],us ++ [u],by simp,ho9,(((hall.below bv).and hL).step hg9 hor9).imp fun x h=>snocL hls.symm h.1 h.2⟩,(bv.mono hB).trans hb9⟩
set_option maxRecDepth 100000 in
set_option maxHeartbeats 8000000 in
theorem memLits_any (q:Option Addr) (c:Nat) (ls:List Lt) (w:World) (hl:LitsOf w q c ls) (hb:litBound ls) (ln:ls.length≤1000000000) :
  Calls Try.prog 25 #[.slice q ls.length c] w fun e w'=>(∃ q' c',e=.returned (.slice q' ls.length c')∧GrowL w.heap.size w' q' c' ls.length ls)∧Below w.heap.size w w':=by
 have a0:(ls.length:Int)≤1000000000:=by omega
 have HL:=hide hl
 have HBD:=hide hb
 clear hl hb
 go_enter Try.func25,Try.ntmps25
 go_wp2
 go_loopw [3,8] (fun m i wr=>∃ (k:Nat) (qm:Option Addr) (cm:Nat),k≤ls.length∧i=.int .i64 k∧m=.slice qm k cm∧Hid (GrowL w.heap.size wr qm cm k (ls.take k))∧Below w.heap.size w wr) (fun _ i _=>ls.length - (intOf i).toNat)
 case atStart=>exact ⟨0,none,0,by omega,rfl,rfl,hide (by simpa using GrowL.nil _ _),Below.refl _ _⟩
 case round =>
  obtain ⟨k,qm,cm,hkk,rfl,rfl,HG,hbel⟩:=hrel
  have HB:=hide hbel
  by_cases hlt:k < ls.length
  ·obtain ⟨l,hl,hld⟩:=get_at hlt
   have HTK:=hide (show ls.take (k + 1)=ls.take k ++ [l] by rw [List.take_add_one,hl];rfl)
   clear hld
   obtain ⟨b,off,u,hq,hbb,hin,g0,g1,g2,g3,g4,g5,g6⟩:=((uh HL).below hbel).at hl
   subst hq
   have hbd:=uh HBD l (List.mem_of_getElem? hl)
   have ki0:(0:Int)≤(k:Int):=by omega
   have ki1:(k:Int) < (ls.length:Int):=by omega
   obtain ⟨Z,HZ⟩:∃ Z,wr.alloc (.cells #[.int .i64 u.kind,.string u.attr,.slice u.qi u.ni u.ci,.slice u.qw u.nw u.cw,.int .i64 u.lo,.int .i64 u.hi,.bool u.neg] 51)=Z:=⟨_,rfl⟩
   have bZ:Below wr.heap.size wr Z:=by rw [← HZ];exact (Below.refl _ _).alloc (Nat.le_refl _) _
   have zk:Z.heap[wr.heap.size]? = some (.cells #[.int .i64 u.kind,.string u.attr,.slice u.qi u.ni u.ci,.slice u.qw u.nw u.cw,.int .i64 u.lo,.int .i64 u.hi,.bool u.neg] 51 (0,0)):=by rw [← HZ];exact box_nw _ _
   have sZ:Z.heap.size=wr.heap.size + 1:=by rw [← HZ];simp
   obtain ⟨z0,z1,z2,z3,z4,z5,z6⟩:=of7' zk
   have hC:=fun (W:World) (hW:Below Z.heap.size Z W)=>memPred_lit u l W (hin.keep (below_sub bZ hW)) hbd.1 hbd.2
   obtain ⟨gl,us,hus,hown,hoff⟩:=uh HG
   have HUS:=hide hus
   have HO:=hide hown
   have HF:=hide hoff
   have HGL:=hide gl
   have BZ:=hide bZ
   have hkm:k + 1≤maxLen:=by unfold maxLen;omega
   have hkb:(k + 1) * 96≤140737488355328:=by omega
   have hws:=hbel.size
   have hL:=hide (fun b e=>(World.ownsRow.lt (show OwnK encL 51 7 w.heap.size wr qm cm us from hown) b e).2)
   rw [hus] at hL
   clear hin hl hbel bZ hbd gl hus hown hoff
   go_wp2
   refine wp_region_held_drew (S:=fun w'=>w'.heap[wr.heap.size]? = some (.cells #[.int .i64 u.kind,.string u.attr,.slice u.qi u.ni u.ci,.slice u.qw u.nw u.cw,.int .i64 u.lo,.int .i64 u.hi,.bool u.neg] 51 (0,0))) (by kernel_rfl) (zk) (fun hHeld=>?_)
   refine wpAnyH_take (i:=0) (oi:=⟨some 12,.move (.tmp 3),_,_,_,none⟩) (v:=?_) rfl (by kernel_rfl) (by kernel_rfl) (by kernel_rfl) (fun _ _ _ h=>h) (Or.inl ⟨by rfl, ?_⟩) (by assumption) ?_
   rotate_left
   ·intro wq hSw
    obtain ⟨e0,e1,e2,e3,e4,e5,e6⟩:=of7' hSw
    go_simp
    with_reducible rfl
   simp only [Act.put,List.setIfInBounds_toArray,List.set_cons_zero,List.set_cons_succ]
   refine wpAnyH_take (i:=1) (oi:=⟨some 13,.fieldAddr 51 (.tmp 5) 0,_,_,_,none⟩) (v:=?_) rfl (by kernel_rfl) (by kernel_rfl) (by kernel_rfl) (fun _ _ _ h=>h) (Or.inl ⟨by rfl, ?_⟩) (by assumption) ?_
   rotate_left
   ·intro wq hSw
    obtain ⟨e0,e1,e2,e3,e4,e5,e6⟩:=of7' hSw
    go_simp
    with_reducible rfl
   simp only [Act.put,List.setIfInBounds_toArray,List.set_cons_zero,List.set_cons_succ]
   refine wpAnyH_take (i:=2) (oi:=⟨some 14,.load 25 (.tmp 13),_,_,_,none⟩) (v:=?_) rfl (by kernel_rfl) (by kernel_rfl) (by kernel_rfl) (fun _ _ _ h=>h) (Or.inl ⟨by rfl, ?_⟩) (by assumption) ?_
   rotate_left
   ·intro wq hSw
    obtain ⟨e0,e1,e2,e3,e4,e5,e6⟩:=of7' hSw
    go_simp
    with_reducible rfl
   simp only [Act.put,List.setIfInBounds_toArray,List.set_cons_zero,List.set_cons_succ]
   refine wpAnyH_take (i:=4) (oi:=⟨some 16,.fieldAddr 51 (.tmp 5) 1,_,_,_,none⟩) (v:=?_) rfl (by kernel_rfl) (by kernel_rfl) (by kernel_rfl) (fun _ _ _ h=>h) (Or.inl ⟨by rfl, ?_⟩) (by assumption) ?_
   rotate_left
   ·intro wq hSw
    obtain ⟨e0,e1,e2,e3,e4,e5,e6⟩:=of7' hSw
    go_simp
    with_reducible rfl
   simp only [Act.put,List.setIfInBounds_toArray,List.set_cons_zero,List.set_cons_succ]
   refine wpAnyH_take (i:=5) (oi:=⟨some 17,.load 4 (.tmp 16),_,_,_,none⟩) (v:=?_) rfl (by kernel_rfl) (by kernel_rfl) (by kernel_rfl) (fun _ _ _ h=>h) (Or.inl ⟨by rfl, ?_⟩) (by assumption) ?_
   rotate_left
   ·intro wq hSw
    obtain ⟨e0,e1,e2,e3,e4,e5,e6⟩:=of7' hSw
    go_simp
    with_reducible rfl
   simp only [Act.put,List.setIfInBounds_toArray,List.set_cons_zero,List.set_cons_succ]
   refine wpAnyH_ready (rs:=[3]) (by kernel_rfl) (by simp) ?_
   refine AllReadyH.cons (o:=⟨some 15,.call { callee:=.value (.func 20),args:=#[.tmp 14],argTypes:=#[25] },_,_,_,none⟩) rfl (fun K hK=>?_) ?_
   ·go_simp
    refine (hC _ ((Below.refl _ _).drew)).mono ?_
    rintro e w1 ⟨⟨g1,k1,g2,k2,rfl,lf⟩,b1⟩
    simp only
    have LF:=hide lf
    have R1:Below Z.heap.size Z w1:=below_undrewM b1
    have B1:=hide R1
    have s1:=R1.size
    have S1:w1.heap[wr.heap.size]? = some (.cells #[.int .i64 u.kind,.string u.attr,.slice u.qi u.ni u.ci,.slice u.qw u.nw u.cw,.int .i64 u.lo,.int .i64 u.hi,.bool u.neg] 51 (0,0)):=(R1.block _ (by omega)).trans zk
    have SA:∀ o:Obj,(w1.alloc o).heap[wr.heap.size]? = some (.cells #[.int .i64 u.kind,.string u.attr,.slice u.qi u.ni u.ci,.slice u.qw u.nw u.cw,.int .i64 u.lo,.int .i64 u.hi,.bool u.neg] 51 (0,0)):=fun o=>(((Below.refl w1.heap.size w1).alloc (Nat.le_refl _) o).block wr.heap.size (by omega)).trans S1
    clear lf b1 R1
    refine hK.out _ _ (S1) (fun hHeld=>?_)
    clear hK K
    refine wpAnyH_take (i:=6) (oi:=⟨some 18,.build 51 #[(0,.tmp 15),(1,.tmp 17)],_,_,_,none⟩) (v:=?_) rfl (by kernel_rfl) (by kernel_rfl) (by kernel_rfl) (fun _ _ _ h=>h) (Or.inl ⟨by rfl, ?_⟩) (by assumption) ?_
    rotate_left
    ·intro wq hSw
     obtain ⟨e0,e1,e2,e3,e4,e5,e6⟩:=of7' hSw
     go_simp
     with_reducible rfl
    simp only [Act.put,List.setIfInBounds_toArray,List.set_cons_zero,List.set_cons_succ]
    refine wpAnyH_ready (rs:=[7]) (by kernel_rfl) (by simp) ?_
    refine AllReadyH.cons (o:=⟨some 19,.buildSlice 37 1 #[(0,.tmp 18)],_,_,_,none⟩) rfl (fun K hK=>?_) ?_
    ·go_simp
     refine hK.out _ _ (SA _) (fun hHeld=>?_)
     clear hK K
     refine wpAnyH_ready (rs:=[8]) (by kernel_rfl) (by simp) ?_
     refine AllReadyH.cons (o:=⟨some 20,.call { callee:=.builtin .append,args:=#[.tmp 12,.tmp 19],argTypes:=#[37,37] },_,_,_,none⟩) rfl (fun K hK=>?_) ?_
     ·refine step_appG rowL (by rfl) (.tmp 12) (.tmp 19) (by rfl) w.heap.size qm cm us ⟨w1.heap.size,0,none⟩ 1 [(⟨u.kind,u.attr,some ⟨g1,0,none⟩,u.ni,k1,some ⟨g2,0,none⟩,u.nw,k2,u.lo,u.hi,u.neg⟩:Lv)] k 1 (k + 1) (uh HUS) rfl rfl (by rfl) (by rfl) (((uh HO).below (uh BZ)).below ((uh B1).alloc (uh B1).size _)) (lit_src (⟨u.kind,u.attr,some ⟨g1,0,none⟩,u.ni,k1,some ⟨g2,0,none⟩,u.nw,k2,u.lo,u.hi,u.neg⟩:Lv) rfl) hkm hkb (by simp only [size_al];omega) ?_
      intro q3 c3 w3 ho3 hb3 hg3 hor3
      have S3:=(hg3.block wr.heap.size (by simp only [size_al];omega) (fun e=>by have:=uh hL _ e.symm;omega)).trans (SA _)
      have bY:=(Below.refl w1.heap.size w1).alloc (Nat.le_refl _) (.cells #[.int .i64 u.kind,.string u.attr,.slice (some ⟨g1,0,none⟩) u.ni k1,.slice (some ⟨g2,0,none⟩) u.nw k2,.int .i64 u.lo,.int .i64 u.hi,.bool u.neg] 51)
      have lf0:=uh LF
      simp only [drew_heap] at lf0
      have HE:=hide (growL_snoc (uh HGL) (uh HUS) (uh HO) (uh HF) (below_sub (uh BZ) (below_sub (uh B1) bY)) ((lf0.up (SameUp.of bY)).mono (by omega)) ho3 hb3 hg3 hor3 hws)
      clear ho3 hb3 hg3 hor3 bY lf0
      refine hK.out _ _ (S3) (fun hHeld=>?_)
      clear hK K
      refine wpAnyH_take (i:=9) (oi:=⟨some 3,.assign (.tmp 20),_,_,_,none⟩) (v:=?_) rfl (by kernel_rfl) (by kernel_rfl) (by kernel_rfl) (fun _ _ _ h=>h) (Or.inl ⟨by rfl, ?_⟩) (by assumption) ?_
      rotate_left
      ·intro wq hSw
       obtain ⟨e0,e1,e2,e3,e4,e5,e6⟩:=of7' hSw
       go_simp
       with_reducible rfl
      simp only [Act.put,List.setIfInBounds_toArray,List.set_cons_zero,List.set_cons_succ]
      refine wpAnyH_done (by kernel_rfl) ?_ _
      go_wp2
      exact ⟨⟨k + 1,q3,c3,by omega,by go_num,rfl,hide (by rw [uh HTK];exact (uh HE).1),(uh HB).trans (uh HE).2⟩,by simp [intOf];omega⟩
     exact AllReadyH.nil
    exact AllReadyH.nil
   exact AllReadyH.nil
  ·have ki1:¬ (k:Int) < (ls.length:Int):=by omega
   have hkl:k=ls.length:=by omega
   subst hkl
   have HGG:=hide (show GrowL w.heap.size wr qm cm ls.length ls by have:=uh HG;rwa [List.take_length] at this)
   clear hbel
   go_wp2
   go_ret
   exact ⟨⟨qm,cm,rfl,uh HGG⟩,uh HB⟩
end Go.Proofs.Ytikhopiegaoacac

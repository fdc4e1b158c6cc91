/- conj.Compare, with the draws it makes counted: for slices.SortFunc. -/
import Derived.Test.YtimklglliffpcaaGreatQZaf
import Derived.Test.YtimklglliffpcaaGreatQCjShelf
namespace Go.Proofs.YtimklglliffpcaaGreat
open Go.RowKit Go.Sort Go.Shelf
theorem vd {w w':World} (h:Below w.heap.size w w') (hd:w.drawn<=w'.drawn):∃ q os',w'=grow (w.drewN q) os':=by
 obtain ⟨⟨d,os⟩,e⟩:=regrown_of_below h
 subst e
 have hd':w.drawn<=d:=hd
 refine ⟨d - w.drawn,os, ?_⟩
 have:redrawn w d=w.drewN (d - w.drawn):=by
  unfold redrawn World.drewN
  rw [Nat.add_sub_cancel' hd']
 rw [this]
theorem Mq (u v:Pv) (w:World):Calls Tryz.prog 68 #[u.val,v.val] w fun e w'=>e=.returned (.int .i64 (kp u.attr v.attr))/\Below w.heap.size w w'/\w.drawn<=w'.drawn:=by
 unfold Pv.val
 obtain ⟨X,HX,bX,_,x8,x9⟩:=pa w u v
 obtain ⟨a0,a1,a2,a3,a4,a5⟩:=kq x8
 obtain ⟨b0,b1,b2,b3,b4,b5⟩:=kq x9
 have BX:=d9 bX
 have DX:=d9 (show w.drawn<=X.drawn by rw [<- HX];exact Nat.le_refl _)
 clear bX x8 x9
 go_enter Tryz.func68,Tryz.ntmps68
 go_wp2_with (go_at_call 122;refine (Xe _ _ _).mono ?_;rintro e w1 ⟨rfl,rfl⟩)
 go_ret
 exact ⟨rfl,uh BX,uh DX⟩
set_option maxHeartbeats 4000000 in
set_option maxRecDepth 100000 in
/-- conj.Compare. -/
theorem Eu (u v:Pv) (p r:Pd) (w:World) (hu:PdIn w u p) (hv:PdIn w v r) (hs:p.small):Calls Tryz.prog 20 #[u.val,v.val] w fun e w'=>e=.returned (.int .i64 (pe p r))/\Below w.heap.size w w'/\w.drawn<=w'.drawn:=by
 have mixed:Tryz.prog.follows .mixedOrders=true:=by kernel_rfl
 obtain ⟨X,HX,bX,sX,x8,x9⟩:=pa w u v
 have HCX:∀ W',Below X.heap.size X W'->(W'.cell? ⟨w.heap.size,0,none⟩=some (.int .i64 u.kind)/\W'.cell? ⟨w.heap.size,1,none⟩=some (.string u.attr)/\W'.cell? ⟨w.heap.size,2,none⟩=some (.slice u.qi u.ni u.ci)/\W'.cell? ⟨w.heap.size,3,none⟩=some (.slice u.qw u.nw u.cw)/\W'.cell? ⟨w.heap.size,4,none⟩=some (.int .i64 u.lo)/\W'.cell? ⟨w.heap.size,5,none⟩=some (.int .i64 u.hi)/\W'.cell? ⟨w.heap.size + 1,0,none⟩=some (.int .i64 v.kind)/\W'.cell? ⟨w.heap.size + 1,1,none⟩=some (.string v.attr)/\W'.cell? ⟨w.heap.size + 1,2,none⟩=some (.slice v.qi v.ni v.ci)/\W'.cell? ⟨w.heap.size + 1,3,none⟩=some (.slice v.qw v.nw v.cw)/\W'.cell? ⟨w.heap.size + 1,4,none⟩=some (.int .i64 v.lo)/\W'.cell? ⟨w.heap.size + 1,5,none⟩=some (.int .i64 v.hi)):=fun W' hW=>by
  obtain ⟨a0,a1,a2,a3,a4,a5⟩:=kq ((hW.block w.heap.size (by omega)).trans x8)
  obtain ⟨b0,b1,b2,b3,b4,b5⟩:=kq ((hW.block (w.heap.size + 1) (by omega)).trans x9)
  exact ⟨a0,a1,a2,a3,a4,a5,b0,b1,b2,b3,b4,b5⟩
 obtain ⟨a0,a1,a2,a3,a4,a5,b0,b1,b2,b3,b4,b5⟩:=HCX X (Below.refl _ _)
 have hA:∀ W,Below X.heap.size X W->Calls Tryz.prog 68 #[.agg #[.int .i64 u.kind,.string u.attr,.slice u.qi u.ni u.ci,.slice u.qw u.nw u.cw,.int .i64 u.lo,.int .i64 u.hi],.agg #[.int .i64 v.kind,.string v.attr,.slice v.qi v.ni v.ci,.slice v.qw v.nw v.cw,.int .i64 v.lo,.int .i64 v.hi]] W fun e w'=>e=.returned (.int .i64 (kp u.attr v.attr))/\Below W.heap.size W w'/\W.drawn<=w'.drawn:=fun W _=>Mq u v W
 have hI:=fun (W:World) (hW:Below X.heap.size X W)=>Vo u.qi u.ci p.ints v.qi v.ci r.ints W (hu.2.2.2.2.2.2.1.below (d8 bX hW)) (hv.2.2.2.2.2.2.1.below (d8 bX hW)) (by have:=hs.1;omega)
 have hS:=fun (W:World) (hW:Below X.heap.size X W)=>Vs u.qw u.cw p.words v.qw v.cw r.words W (hu.2.2.2.2.2.2.2.below (d8 bX hW)) (hv.2.2.2.2.2.2.2.below (d8 bX hW)) (by have:=hs.2;omega)
 rw [<- hu.2.2.1,<- hv.2.2.1] at hI
 rw [<- hu.2.2.2.1,<- hv.2.2.2.1] at hS
 have HE:=d9 (show Bn [kp u.attr v.attr,kc u.kind v.kind,lc kc p.ints r.ints,lc kp p.words r.words,kc u.lo v.lo,kc u.hi v.hi]=pe p r by
  unfold pe
  rw [hu.1,hv.1,hu.2.1,hv.2.1,hu.2.2.2.2.1,hv.2.2.2.2.1,hu.2.2.2.2.2.1,hv.2.2.2.2.2.1])
 have BX:=d9 bX
 have DX:=d9 (show w.drawn<=X.drawn by rw [<- HX];exact Nat.le_refl _)
 unfold Pv.val
 obtain ⟨z3,hz3⟩:∃ z,lc kc p.ints r.ints=z:=⟨_,rfl⟩
 obtain ⟨z4,hz4⟩:∃ z,lc kp p.words r.words=z:=⟨_,rfl⟩
 rw [hz3] at hI HE
 rw [hz4] at hS HE
 clear hz3 hz4 bX x8 x9 hu hv hs
 go_enter Tryz.func20,Tryz.ntmps20
 go_wp2
 go_region_held3 (fun W'=>W'.cell? ⟨w.heap.size,0,none⟩=some (.int .i64 u.kind)/\W'.cell? ⟨w.heap.size,1,none⟩=some (.string u.attr)/\W'.cell? ⟨w.heap.size,2,none⟩=some (.slice u.qi u.ni u.ci)/\W'.cell? ⟨w.heap.size,3,none⟩=some (.slice u.qw u.nw u.cw)/\W'.cell? ⟨w.heap.size,4,none⟩=some (.int .i64 u.lo)/\W'.cell? ⟨w.heap.size,5,none⟩=some (.int .i64 u.hi)/\W'.cell? ⟨w.heap.size + 1,0,none⟩=some (.int .i64 v.kind)/\W'.cell? ⟨w.heap.size + 1,1,none⟩=some (.string v.attr)/\W'.cell? ⟨w.heap.size + 1,2,none⟩=some (.slice v.qi v.ni v.ci)/\W'.cell? ⟨w.heap.size + 1,3,none⟩=some (.slice v.qw v.nw v.cw)/\W'.cell? ⟨w.heap.size + 1,4,none⟩=some (.int .i64 v.lo)/\W'.cell? ⟨w.heap.size + 1,5,none⟩=some (.int .i64 v.hi)) (first | exact HCX _ (Below.refl _ _) | exact HCX _ (Below.refl _ _).drew | exact HCX _ (Below.refl _ _).drew.drew | exact HCX _ (uh B1) | exact HCX _ (uh B1).drew | exact HCX _ (uh B1).drew.drew | exact HCX _ ((uh B1).alloc (uh B1).size _) | exact HCX _ ((uh B1).drew.alloc (uh B1).size _) | exact HCX _ ((uh B1).alloc (uh B1).size _).drew | go_keep) (first
  | (go_at_call 68;(with_reducible refine (hA _ (by first | exact (Below.refl _ _).drew | exact Below.refl _ _)).mono ?_);rintro e w1 ⟨rfl,b1,d1⟩;have B1:=d9 (show Below X.heap.size X w1 by first | exact b1 | exact jd b1);have D1:=d9 (show X.drawn<=w1.drawn by first | exact d1 | exact Nat.le_of_succ_le d1);clear b1 d1)
  | (go_at_call 69;(with_reducible refine (C4 _ _ _).mono ?_);rintro e w2 ⟨rfl,rfl⟩)
  | (go_at_call 70;(with_reducible refine (hI _ (by first | exact uh B1 | exact (uh B1).drew | exact (uh B1).drew.drew | exact Below.refl _ _ | exact (Below.refl _ _).drew)).mono ?_);rintro e w2 ⟨rfl,rfl⟩)
  | (go_at_call 71;(with_reducible refine (hS _ (by first | exact uh B1 | exact (uh B1).drew | exact (uh B1).drew.drew | exact Below.refl _ _ | exact (Below.refl _ _).drew)).mono ?_);rintro e w2 ⟨rfl,rfl⟩)
  | (go_at_call 67;(with_reducible refine (zbl _ _ _ _ _ _ _ _ (World.alloc_heap_new _ _)).mono ?_);rintro e w2 ⟨rfl,rfl⟩))
 all_goals
  go_wp2
  go_ret
  first
   | exact ⟨jg (uh HE),d8 (uh BX) ((uh B1).alloc (uh B1).size _),Nat.le_trans (uh DX) (Nat.le_trans (uh D1) (by first | exact Nat.le_refl _ | exact Nat.le_succ _ | exact Nat.le_add_right _ _))⟩
   | exact ⟨jg (uh HE),d8 (uh BX) ((uh B1).alloc (uh B1).size _).drew,Nat.le_trans (uh DX) (Nat.le_trans (uh D1) (by first | exact Nat.le_refl _ | exact Nat.le_succ _ | exact Nat.le_add_right _ _))⟩
   | exact ⟨jg (uh HE),d8 (uh BX) ((uh B1).drew.alloc (uh B1).size _),Nat.le_trans (uh DX) (Nat.le_trans (uh D1) (by first | exact Nat.le_refl _ | exact Nat.le_succ _ | exact Nat.le_add_right _ _))⟩
end Go.Proofs.YtimklglliffpcaaGreat

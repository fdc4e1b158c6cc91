/- conj.both of two, the second a set. -/
import Derived.Test.YtimklglliffpcaaGreatQZac
import Derived.Deep.Cut
namespace Go.Proofs.YtimklglliffpcaaGreat
open Go.RowKit Go.Sort Go.Shelf
set_option maxHeartbeats 8000000 in
set_option maxRecDepth 100000 in
theorem My (A V:Pv) (a b:Pd) (B:Nat) (w:World) (hB:B<=w.heap.size) (hA:PdOwn B w A a) (hV:PdIn w V b) (na:Gd a) (nb:Gd b) (hap:Apart A a V b) (T:Nat->Prop) (hT:∀ k,T k->k < w.heap.size) (hOA:Off A T) (hset:mu a=true) :
  Calls Tryz.prog 50 #[V.val,A.val] w fun e w'=>(∃ r:Pv,e=.returned (.tuple #[.agg #[.int .i64 r.kind,.string r.attr,.slice r.qi r.ni r.ci,.slice r.qw r.nw r.cw,.int .i64 r.lo,.int .i64 r.hi],.bool (kl a b).isSome])/\PdOwn B w' r ((kl a b).getD pr)/\Off r T)/\Below B w w'/\∀ k,T k->w'.heap[k]? = w.heap[k]?:=by
 have hS:=fun W=>D8 A W
 rw [show (decide (A.kind=1) || decide (A.kind=2))=true by rw [hA.1.1];exact hset] at hS
 unfold Pv.val at hS ⊢
 obtain ⟨X,HX,bX,sX,x8,x9,x10⟩:=Ah w V A
 obtain ⟨a0,a1,a2,a3,a4,a5⟩:=kq x8
 obtain ⟨b0,b1,b2,b3,b4,b5⟩:=kq x9
 have BX:=d9 bX
 have X8:=d9 x8
 have X9:=d9 x9
 have X10:=d9 x10
 have HA:=d9 hA
 have HB:=d9 hV
 have HNA:=d9 na
 have HNB:=d9 nb
 have HAP:=d9 hap
 have HOA:=d9 hOA
 have hTl:∀ W:World,w.heap.size<=W.heap.size->w.heap.size + 2 < W.heap.size->∀ k,(k=w.heap.size + 2 ∨ T k)->k < W.heap.size:=fun W h1 h2 k hk=>by
  rcases hk with rfl | hk
  ·exact h2
  ·have:=hT k hk;omega
 clear hA hV na nb hap hset bX x8 x9 x10
 go_enter Tryz.func50,Tryz.ntmps50
 go_upto_region 3 with (go_at_call 99;refine (hS _).mono ?_;rintro e Z0 ⟨rfl,bz⟩;have BZ:=d9 bz;clear a0 a1 a2 a3 a4 a5 b0 b1 b2 b3 b4 b5;have q8:=(bz.block _ (by omega)).trans (uh X8);have q9:=(bz.block _ (by omega)).trans (uh X9);(obtain ⟨a0,a1,a2,a3,a4,a5⟩:=kq q8);(obtain ⟨b0,b1,b2,b3,b4,b5⟩:=kq q9);have af:=fun o=>gy (o:=o) q8;have bf:=fun o=>gy (o:=o) q9;clear bz q8 q9)
 obtain ⟨Z,HZ⟩:∃ Z,((((((((((((Z0.setCell ⟨w.heap.size,0,none⟩ (.int .i64 A.kind)).setCell ⟨w.heap.size,1,none⟩ (.string A.attr)).setCell ⟨w.heap.size,2,none⟩ (.slice A.qi A.ni A.ci)).setCell ⟨w.heap.size,3,none⟩ (.slice A.qw A.nw A.cw)).setCell ⟨w.heap.size,4,none⟩ (.int .i64 A.lo)).setCell ⟨w.heap.size,5,none⟩ (.int .i64 A.hi)).setCell ⟨w.heap.size + 1,0,none⟩ (.int .i64 V.kind)).setCell ⟨w.heap.size + 1,1,none⟩ (.string V.attr)).setCell ⟨w.heap.size + 1,2,none⟩ (.slice V.qi V.ni V.ci)).setCell ⟨w.heap.size + 1,3,none⟩ (.slice V.qw V.nw V.cw)).setCell ⟨w.heap.size + 1,4,none⟩ (.int .i64 V.lo)).setCell ⟨w.heap.size + 1,5,none⟩ (.int .i64 V.hi))=Z:=⟨_,rfl⟩
 rw [HZ]
 have q8:=((uh BZ).block _ (by omega)).trans (uh X8)
 have q9:=((uh BZ).block _ (by omega)).trans (uh X9)
 have q10:=((uh BZ).block _ (by omega)).trans (uh X10)
 obtain ⟨kA,kB,kO,sZ,o1,o2,o3⟩:=Jv Z0 w.heap.size A V q8 q9 Z HZ
 have KA:=d9 kA
 have KB:=d9 kB
 have KZ:=d9 ((kO _ (by omega) (by omega)).trans q10)
 have s0:=(uh BZ).size
 have BZw:Hid (Below w.heap.size w Z):=d9 (by
  have b0:=d8 (uh BX) (uh BZ)
  exact ⟨o1.trans b0.os,o2.trans b0.tape,o3.trans b0.output,by rw [sZ];exact b0.size,fun k hk=>(kO k (by omega) (by omega)).trans (b0.block k hk)⟩)
 have l0:w.heap.size < Z.heap.size:=by omega
 have l1:w.heap.size + 1 < Z.heap.size:=by omega
 have l2:w.heap.size + 2 < Z.heap.size:=by omega
 clear a0 a1 a2 a3 a4 a5 b0 b1 b2 b3 b4 b5 af bf q8 q9 q10 hS HX HZ kA kB kO o1 o2 o3
 obtain ⟨a0,a1,a2,a3,a4,a5⟩:=kq (uh KA)
 obtain ⟨b0,b1,b2,b3,b4,b5⟩:=kq (uh KB)
 obtain ⟨z0,z1,z2,z3,z4,z5⟩:=kq (uh KZ)
 have zf:=fun o=>gy (o:=o) (uh KZ)
 have hn2:B<=w.heap.size + 2:=by omega
 by_cases h1:a.kind=1
 ·have hne:a.ints ≠ []:=(uh HNA).2.1 h1
  obtain ⟨g,hqg,hBg,hRw⟩:=Gy (uh HA) h1 ((uh HNA).2.1 h1)
  have hcl:A.ni=a.ints.length:=(uh HA).1.2.2.1
  have hcap:a.ints.length<=A.ci:=(uh HA).1.2.2.2.2.2.2.1.2.1
  have hcm:A.ci<=maxLen:=(uh HA).1.2.2.2.2.2.2.1.2.2.1
  have hgw:g < w.heap.size:=hRw.1
  have hRZ:=hRw.below (uh BZw)
  have hD:∀ W,Below Z.heap.size Z W->Calls Tryz.prog 100 #[.slice (some ⟨g,0,none⟩) A.ni A.ci,.func (.func 101) #[] #[.pointer (some ⟨w.heap.size + 1,0,none⟩)]] W fun e w'=>e=.returned (.slice (some ⟨g,0,none⟩) (a.ints.filter (qa b)).length A.ci)/\Rw vI w' g (a.ints.filter (qa b))/\W.grownBy w' (some g):=fun W hW=>by
   have:=Nu g A.ci (w.heap.size + 1) a.ints (fun x=>!qa b x) W (hRZ.below hW) (by have:=(uh HNA).1.2.2.1;omega) hcap (fun W2 x hW2 =>
    zc6 V b x (w.heap.size + 1) W2 (((j7 (ji hW (some g)) hW2).block _ l1 (by intro e;injection e with e;omega)).trans (uh KB)) (tn ((uh HB).keep (uh BZw)) (j7 (ji hW (some g)) hW2) (fun y hy hn=>(uh HAP _ y (Or.inl ⟨hqg,hne⟩) (Or.inl ⟨hy,hn⟩)).symm) (fun y hy hn=>(uh HAP _ y (Or.inl ⟨hqg,hne⟩) (Or.inr ⟨hy,hn⟩)).symm)) (uh HNB).1)
   rw [show (a.ints.filter fun x=>!(!qa b x))=a.ints.filter (qa b) by congr 1;funext x;simp,<- hcl] at this
   exact this
  obtain ⟨F,hF⟩:∃ F,a.ints.filter (qa b)=F:=⟨_,rfl⟩
  have HCO:=d9 (show kl a b=mkI A.attr F by unfold kl;rw [if_pos h1,hF,(uh HA).1.2.1])
  have HFL:=d9 (show F.length<=A.ci by rw [<- hF];exact Nat.le_trans (List.length_filter_le _ _) hcap)
  rw [hF] at hD
  have k1:(A.kind == 1)=true:=by rw [(uh HA).1.1];simpa using h1
  rw [hqg] at a2
  have hTg:Hid (¬ (g=w.heap.size + 2 ∨ T g)):=d9 (fun h=>h.elim (fun h=>by omega) (fun h=>(uh HOA).1 _ hqg h))
  clear hF hRw h1 hRZ hqg hcap hcl hne
  go_upto_region 4 with fail
  go_region_with (first
   | (go_at_call 100;refine (hD _ (by first | exact Below.refl _ _ | exact (Below.refl _ _).drew | exact (Below.refl _ _).drew.drew | exact (Below.refl _ _).drew.drew.drew)).mono ?_;rintro e w2 ⟨rfl,r2,g2⟩;have g2':Z.grownBy w2 (some g):=(by first | exact g2 | exact jj g2 | exact jj (jj g2) | exact jj (jj (jj g2)));have R2:=d9 r2;have G2:=d9 g2';have s2:=g2'.size;have q8:=(g2'.block _ l0 (by intro e;injection e with e;omega)).trans (uh KA);clear a0 a1 a2 a3 a4 a5;(obtain ⟨a0,a1,a2,a3,a4,a5⟩:=kq q8);have KZ2:=d9 ((g2'.block _ l2 (by intro e;injection e with e;omega)).trans (uh KZ));clear z0 z1 z2 z3 z4 z5 zf;have q9:=uh KZ2;(obtain ⟨z0,z1,z2,z3,z4,z5⟩:=kq q9);have zf:=fun o=>gy (o:=o) q9;clear r2 g2 g2' q8 q9)
   | (go_at_call 55;refine (Ja A.attr g A.ci B (fun k=>k=w.heap.size + 2 ∨ T k) F _ hBg (uh hTg) ((uh R2).below (by first | exact Below.refl _ _ | exact (Below.refl _ _).drew | exact (Below.refl _ _).drew.drew | exact (Below.refl _ _).drew.drew.drew)) (uh HFL) hcm).mono ?_;rintro e w3 ⟨⟨r,rfl,ho,hof⟩,b3⟩;have b3':Below w2.heap.size w2 w3:=(by first | exact b3 | exact jd b3 | exact jd (jd b3) | exact jd (jd (jd b3)));have HOr:=d9 ho;have HOf:=d9 hof;have HK:=d9 (fun (k:Nat) (hk:T k)=>(b3'.block k (Nat.lt_of_lt_of_le (hT k hk) (Nat.le_trans (uh BZw).size s2))).trans (((uh G2).block k (Nat.lt_of_lt_of_le (hT k hk) (uh BZw).size) (fun e=>by injection e with e;exact uh hTg (Or.inr (e ▸ hk)))).trans ((uh BZw).block k (hT k hk))));have BF:=d9 ((qj (uh BZw) (uh G2) hB hBg).trans (b3'.mono (Nat.le_trans hB (Nat.le_trans (uh BZw).size s2))));clear z0 z1 z2 z3 z4 z5 zf;have q9:=(b3'.block _ (Nat.lt_of_lt_of_le l2 s2)).trans (uh KZ2);(obtain ⟨z0,z1,z2,z3,z4,z5⟩:=kq q9);have zf:=fun o=>gy (o:=o) q9;clear b3 b3' q9 ho hof))
  all_goals
   go_wp2
   exact bodyPost_ret (v:=.tuple #[.agg #[.int .i64 r.kind,.string r.attr,.slice r.qi r.ni r.ci,.slice r.qw r.nw r.cw,.int .i64 r.lo,.int .i64 r.hi],.bool (kl a b).isSome]) (by rw [uh HCO];simp [results,Tryz.results50,go_sem, *]) rfl ⟨⟨r,rfl,by rw [uh HCO];exact (((((((uh HOr).setC (uh HOf) (Or.inl rfl) 0 _).setC (uh HOf) (Or.inl rfl) 1 _).setC (uh HOf) (Or.inl rfl) 2 _).setC (uh HOf) (Or.inl rfl) 3 _).setC (uh HOf) (Or.inl rfl) 4 _).setC (uh HOf) (Or.inl rfl) 5 _),(uh HOf).sub⟩,(((((((uh BF).setCell (p:=⟨w.heap.size + 2,0,none⟩) hn2 _).setCell (p:=⟨w.heap.size + 2,1,none⟩) hn2 _).setCell (p:=⟨w.heap.size + 2,2,none⟩) hn2 _).setCell (p:=⟨w.heap.size + 2,3,none⟩) hn2 _).setCell (p:=⟨w.heap.size + 2,4,none⟩) hn2 _).setCell (p:=⟨w.heap.size + 2,5,none⟩) hn2 _),fun k hk=>(l9 (by have:=hT k hk;omega) _ _ _ _ _ _).trans (uh HK k hk)⟩
 ·by_cases h2:a.kind=2
  ·have hne:a.words ≠ []:=(uh HNA).2.2.1 h2
   obtain ⟨g,hqg,hBg,hRw⟩:=Gn (uh HA) h2 ((uh HNA).2.2.1 h2)
   have hcl:A.nw=a.words.length:=(uh HA).1.2.2.2.1
   have hcap:a.words.length<=A.cw:=(uh HA).1.2.2.2.2.2.2.2.2.1
   have hcm:A.cw<=maxLen:=(uh HA).1.2.2.2.2.2.2.2.2.2.1
   have hgw:g < w.heap.size:=hRw.1
   have hRZ:=hRw.below (uh BZw)
   have hD:∀ W,Below Z.heap.size Z W->Calls Tryz.prog 103 #[.slice (some ⟨g,0,none⟩) A.nw A.cw,.func (.func 104) #[] #[.pointer (some ⟨w.heap.size + 1,0,none⟩)]] W fun e w'=>e=.returned (.slice (some ⟨g,0,none⟩) (a.words.filter (r8 b)).length A.cw)/\Rw vS w' g (a.words.filter (r8 b))/\W.grownBy w' (some g):=fun W hW=>by
    have:=Qg g A.cw (w.heap.size + 1) a.words (fun x=>!r8 b x) W (hRZ.below hW) (by have:=(uh HNA).1.2.2.2.1;omega) hcap (fun W2 x hW2 =>
     zc9 V b x (w.heap.size + 1) W2 (((j7 (ji hW (some g)) hW2).block _ l1 (by intro e;injection e with e;omega)).trans (uh KB)) (tn ((uh HB).keep (uh BZw)) (j7 (ji hW (some g)) hW2) (fun y hy hn=>(uh HAP _ y (Or.inr ⟨hqg,hne⟩) (Or.inl ⟨hy,hn⟩)).symm) (fun y hy hn=>(uh HAP _ y (Or.inr ⟨hqg,hne⟩) (Or.inr ⟨hy,hn⟩)).symm)) (uh HNB).1)
    rw [show (a.words.filter fun x=>!(!r8 b x))=a.words.filter (r8 b) by congr 1;funext x;simp,<- hcl] at this
    exact this
   obtain ⟨F,hF⟩:∃ F,a.words.filter (r8 b)=F:=⟨_,rfl⟩
   have HCO:=d9 (show kl a b=mkS A.attr F by unfold kl;rw [if_neg (by omega),if_pos h2,hF,(uh HA).1.2.1])
   have HFL:=d9 (show F.length<=A.cw by rw [<- hF];exact Nat.le_trans (List.length_filter_le _ _) hcap)
   rw [hF] at hD
   have k1:(A.kind == 2)=true:=by rw [(uh HA).1.1];simpa using h2
   have k0:(A.kind == 1)=false:=by rw [(uh HA).1.1,h2];rfl
   rw [hqg] at a3
   have hTg:Hid (¬ (g=w.heap.size + 2 ∨ T g)):=d9 (fun h=>h.elim (fun h=>by omega) (fun h=>(uh HOA).2 _ hqg h))
   clear hF hRw h2 hRZ hqg hcap hcl hne
   go_upto_region 6 with fail
   go_region_with (first
    | (go_at_call 103;refine (hD _ (by first | exact Below.refl _ _ | exact (Below.refl _ _).drew | exact (Below.refl _ _).drew.drew | exact (Below.refl _ _).drew.drew.drew)).mono ?_;rintro e w2 ⟨rfl,r2,g2⟩;have g2':Z.grownBy w2 (some g):=(by first | exact g2 | exact jj g2 | exact jj (jj g2) | exact jj (jj (jj g2)));have R2:=d9 r2;have G2:=d9 g2';have s2:=g2'.size;have q8:=(g2'.block _ l0 (by intro e;injection e with e;omega)).trans (uh KA);clear a0 a1 a2 a3 a4 a5;(obtain ⟨a0,a1,a2,a3,a4,a5⟩:=kq q8);have KZ2:=d9 ((g2'.block _ l2 (by intro e;injection e with e;omega)).trans (uh KZ));clear z0 z1 z2 z3 z4 z5 zf;have q9:=uh KZ2;(obtain ⟨z0,z1,z2,z3,z4,z5⟩:=kq q9);have zf:=fun o=>gy (o:=o) q9;clear r2 g2 g2' q8 q9)
    | (go_at_call 57;refine (Jh A.attr g A.cw B (fun k=>k=w.heap.size + 2 ∨ T k) F _ hBg (uh hTg) ((uh R2).below (by first | exact Below.refl _ _ | exact (Below.refl _ _).drew | exact (Below.refl _ _).drew.drew | exact (Below.refl _ _).drew.drew.drew)) (uh HFL) hcm).mono ?_;rintro e w3 ⟨⟨r,rfl,ho,hof⟩,b3⟩;have b3':Below w2.heap.size w2 w3:=(by first | exact b3 | exact jd b3 | exact jd (jd b3) | exact jd (jd (jd b3)));have HOr:=d9 ho;have HOf:=d9 hof;have HK:=d9 (fun (k:Nat) (hk:T k)=>(b3'.block k (Nat.lt_of_lt_of_le (hT k hk) (Nat.le_trans (uh BZw).size s2))).trans (((uh G2).block k (Nat.lt_of_lt_of_le (hT k hk) (uh BZw).size) (fun e=>by injection e with e;exact uh hTg (Or.inr (e ▸ hk)))).trans ((uh BZw).block k (hT k hk))));have BF:=d9 ((qj (uh BZw) (uh G2) hB hBg).trans (b3'.mono (Nat.le_trans hB (Nat.le_trans (uh BZw).size s2))));clear z0 z1 z2 z3 z4 z5 zf;have q9:=(b3'.block _ (Nat.lt_of_lt_of_le l2 s2)).trans (uh KZ2);(obtain ⟨z0,z1,z2,z3,z4,z5⟩:=kq q9);have zf:=fun o=>gy (o:=o) q9;clear b3 b3' q9 ho hof))
   all_goals
    go_wp2
    exact bodyPost_ret (v:=.tuple #[.agg #[.int .i64 r.kind,.string r.attr,.slice r.qi r.ni r.ci,.slice r.qw r.nw r.cw,.int .i64 r.lo,.int .i64 r.hi],.bool (kl a b).isSome]) (by rw [uh HCO];simp [results,Tryz.results50,go_sem, *]) rfl ⟨⟨r,rfl,by rw [uh HCO];exact (((((((uh HOr).setC (uh HOf) (Or.inl rfl) 0 _).setC (uh HOf) (Or.inl rfl) 1 _).setC (uh HOf) (Or.inl rfl) 2 _).setC (uh HOf) (Or.inl rfl) 3 _).setC (uh HOf) (Or.inl rfl) 4 _).setC (uh HOf) (Or.inl rfl) 5 _),(uh HOf).sub⟩,(((((((uh BF).setCell (p:=⟨w.heap.size + 2,0,none⟩) hn2 _).setCell (p:=⟨w.heap.size + 2,1,none⟩) hn2 _).setCell (p:=⟨w.heap.size + 2,2,none⟩) hn2 _).setCell (p:=⟨w.heap.size + 2,3,none⟩) hn2 _).setCell (p:=⟨w.heap.size + 2,4,none⟩) hn2 _).setCell (p:=⟨w.heap.size + 2,5,none⟩) hn2 _),fun k hk=>(l9 (by have:=hT k hk;omega) _ _ _ _ _ _).trans (uh HK k hk)⟩
  ·have k1:(A.kind == 1)=false:=by rw [(uh HA).1.1];simpa using h1
   have k2:(A.kind == 2)=false:=by rw [(uh HA).1.1];simpa using h2
   by_cases hkk:a.kind=b.kind
   ·have kk:(A.kind != V.kind)=false:=by rw [(uh HA).1.1,(uh HB).1];simp [hkk]
    by_cases h3:a.kind=3
    ·have k3:(A.kind == 3)=true:=by rw [(uh HA).1.1];simpa using h3
     have HCO:=d9 (show kl a b=Dl A.attr (max A.lo V.lo) (min A.hi V.hi) by unfold kl;rw [if_neg h1,if_neg h2,if_neg (by simpa using hkk),if_pos h3,(uh HA).1.2.1,(uh HA).1.2.2.2.2.1,(uh HA).1.2.2.2.2.2.1,(uh HB).2.2.2.2.1,(uh HB).2.2.2.2.2.1])
     have hC:=Em A.attr (max A.lo V.lo) (min A.hi V.hi) B (fun k=>k=w.heap.size + 2 ∨ T k) Z (Nat.le_trans hB (uh BZw).size) (hTl Z (uh BZw).size l2)
     clear h1 h2 h3 hkk
     go_wp2_with (go_at_call 59;refine hC.mono ?_;rintro e w3 ⟨⟨r,rfl,ho,hof⟩,b3⟩;have HOr:=d9 ho;have HOf:=d9 hof;have HK:=d9 (fun (k:Nat) (hk:T k)=>(b3.block k (Nat.lt_of_lt_of_le (hT k hk) (uh BZw).size)).trans ((uh BZw).block k (hT k hk)));have BF:=d9 (((uh BZw).mono hB).trans (b3.mono (Nat.le_trans hB (uh BZw).size)));clear z0 z1 z2 z3 z4 z5 zf;have q9:=(b3.block _ l2).trans (uh KZ);(obtain ⟨z0,z1,z2,z3,z4,z5⟩:=kq q9);have zf:=fun o=>gy (o:=o) q9;clear b3 q9 ho hof)
     exact bodyPost_ret (v:=.tuple #[.agg #[.int .i64 r.kind,.string r.attr,.slice r.qi r.ni r.ci,.slice r.qw r.nw r.cw,.int .i64 r.lo,.int .i64 r.hi],.bool (kl a b).isSome]) (by rw [uh HCO];simp [results,Tryz.results50,go_sem, *]) rfl ⟨⟨r,rfl,by rw [uh HCO];exact (((((((uh HOr).setC (uh HOf) (Or.inl rfl) 0 _).setC (uh HOf) (Or.inl rfl) 1 _).setC (uh HOf) (Or.inl rfl) 2 _).setC (uh HOf) (Or.inl rfl) 3 _).setC (uh HOf) (Or.inl rfl) 4 _).setC (uh HOf) (Or.inl rfl) 5 _),(uh HOf).sub⟩,(((((((uh BF).setCell (p:=⟨w.heap.size + 2,0,none⟩) hn2 _).setCell (p:=⟨w.heap.size + 2,1,none⟩) hn2 _).setCell (p:=⟨w.heap.size + 2,2,none⟩) hn2 _).setCell (p:=⟨w.heap.size + 2,3,none⟩) hn2 _).setCell (p:=⟨w.heap.size + 2,4,none⟩) hn2 _).setCell (p:=⟨w.heap.size + 2,5,none⟩) hn2 _),fun k hk=>(l9 (by have:=hT k hk;omega) _ _ _ _ _ _).trans (uh HK k hk)⟩
    ·have h4:a.kind=4:=by rcases (uh HNA).2.2.2 with h | h | h | h <;> omega
     have h4b:b.kind=4:=by omega
     have k3:(A.kind == 3)=false:=by rw [(uh HA).1.1];simpa using h3
     obtain ⟨sa,hsa⟩:=(uh HNA).1.2.2.2.2 h4
     obtain ⟨sb,hsb⟩:=(uh HNB).1.2.2.2.2 h4b
     obtain ⟨ba,oa,hqa,hba,hca⟩:=j6 ((uh HA).1.2.2.2.2.2.2.2) (j:=0) (x:=sa) (by rw [hsa];rfl)
     obtain ⟨bb,ob,hqb,hbb,hcb⟩:=j6 ((uh HB).2.2.2.2.2.2.2) (j:=0) (x:=sb) (by rw [hsb];rfl)
     have hna:A.nw=1:=by rw [(uh HA).1.2.2.2.1,hsa];rfl
     have hnb:V.nw=1:=by rw [(uh HB).2.2.2.1,hsb];rfl
     have HCO:=d9 (show kl a b=Dj A.attr sa sb by unfold kl sm;rw [if_neg h1,if_neg h2,if_neg (by simpa using hkk),if_neg h3,(uh HA).1.2.1,hsa,hsb];rfl)
     rw [Nat.add_zero] at hca hcb
     rw [hqa,hna] at a3
     rw [hqb,hnb] at b3
     have HCS:∀ W',Below Z.heap.size Z W'->(W'.cell? ⟨w.heap.size,1,none⟩=some (.string A.attr)/\W'.cell? ⟨w.heap.size,3,none⟩=some (.slice (some ⟨ba,oa,none⟩) 1 A.cw)/\W'.cell? ⟨w.heap.size + 1,3,none⟩=some (.slice (some ⟨bb,ob,none⟩) 1 V.cw)/\W'.cell? ⟨ba,oa,none⟩=some (.string sa)/\W'.cell? ⟨bb,ob,none⟩=some (.string sb)):=fun W' hW=>by
      obtain ⟨p0,p1,p2,p3,p4,p5⟩:=kq ((hW.block _ l0).trans (uh KA))
      obtain ⟨r0,r1,r2,r3,r4,r5⟩:=kq ((hW.block _ l1).trans (uh KB))
      rw [hqa,hna] at p3
      rw [hqb,hnb] at r3
      exact ⟨p1,p3,r3,((d8 (uh BZw) hW).cell (p:=⟨ba,oa,none⟩) hba).trans hca,((d8 (uh BZw) hW).cell (p:=⟨bb,ob,none⟩) hbb).trans hcb⟩
     have HCT:∀ (W:World) (v0 v1 v2 v3 v4 v5:Value),Below Z.heap.size Z W->(((((((W.setCell ⟨w.heap.size + 2,0,none⟩ v0).setCell ⟨w.heap.size + 2,1,none⟩ v1).setCell ⟨w.heap.size + 2,2,none⟩ v2).setCell ⟨w.heap.size + 2,3,none⟩ v3).setCell ⟨w.heap.size + 2,4,none⟩ v4).setCell ⟨w.heap.size + 2,5,none⟩ v5).cell? ⟨w.heap.size,1,none⟩=some (.string A.attr)/\((((((W.setCell ⟨w.heap.size + 2,0,none⟩ v0).setCell ⟨w.heap.size + 2,1,none⟩ v1).setCell ⟨w.heap.size + 2,2,none⟩ v2).setCell ⟨w.heap.size + 2,3,none⟩ v3).setCell ⟨w.heap.size + 2,4,none⟩ v4).setCell ⟨w.heap.size + 2,5,none⟩ v5).cell? ⟨w.heap.size,3,none⟩=some (.slice (some ⟨ba,oa,none⟩) 1 A.cw)/\((((((W.setCell ⟨w.heap.size + 2,0,none⟩ v0).setCell ⟨w.heap.size + 2,1,none⟩ v1).setCell ⟨w.heap.size + 2,2,none⟩ v2).setCell ⟨w.heap.size + 2,3,none⟩ v3).setCell ⟨w.heap.size + 2,4,none⟩ v4).setCell ⟨w.heap.size + 2,5,none⟩ v5).cell? ⟨w.heap.size + 1,3,none⟩=some (.slice (some ⟨bb,ob,none⟩) 1 V.cw)/\((((((W.setCell ⟨w.heap.size + 2,0,none⟩ v0).setCell ⟨w.heap.size + 2,1,none⟩ v1).setCell ⟨w.heap.size + 2,2,none⟩ v2).setCell ⟨w.heap.size + 2,3,none⟩ v3).setCell ⟨w.heap.size + 2,4,none⟩ v4).setCell ⟨w.heap.size + 2,5,none⟩ v5).cell? ⟨ba,oa,none⟩=some (.string sa)/\((((((W.setCell ⟨w.heap.size + 2,0,none⟩ v0).setCell ⟨w.heap.size + 2,1,none⟩ v1).setCell ⟨w.heap.size + 2,2,none⟩ v2).setCell ⟨w.heap.size + 2,3,none⟩ v3).setCell ⟨w.heap.size + 2,4,none⟩ v4).setCell ⟨w.heap.size + 2,5,none⟩ v5).cell? ⟨bb,ob,none⟩=some (.string sb)):=fun W v0 v1 v2 v3 v4 v5 hW=>by
      obtain ⟨p1,p2,p3,p4,p5⟩:=HCS W hW
      exact ⟨qx (by omega) p1,qx (by omega) p2,qx (by omega) p3,qx (by omega) p4,qx (by omega) p5⟩
     obtain ⟨_,_,_,ca,cb⟩:=HCS Z (Below.refl _ _)
     have hC:=fun (W:World) (hW:Below Z.heap.size Z W)=>G9 A.attr sa sb B (fun k=>k=w.heap.size + 2 ∨ T k) W (Nat.le_trans hB (Nat.le_trans (uh BZw).size hW.size)) (hTl W (Nat.le_trans (uh BZw).size hW.size) (Nat.lt_of_lt_of_le l2 hW.size))
     have HS1:=d9 HCS
     have HS2:=d9 HCT
     clear h1 h2 h3 hkk h4 h4b hsa hsb hca hcb hqa hqb hna hnb HCS HCT
     go_upto_region 11 with fail
     refine wp_region_held_drew (S:=fun w'=>(w'.cell? ⟨w.heap.size,1,none⟩=some (.string A.attr)/\w'.cell? ⟨w.heap.size,3,none⟩=some (.slice (some ⟨ba,oa,none⟩) 1 A.cw)/\w'.cell? ⟨w.heap.size + 1,3,none⟩=some (.slice (some ⟨bb,ob,none⟩) 1 V.cw)/\w'.cell? ⟨ba,oa,none⟩=some (.string sa)/\w'.cell? ⟨bb,ob,none⟩=some (.string sb))) (by kernel_rfl) (uh HS1 _ (Below.refl _ _).drew) (fun hHeld=>?_)
     refine wpAnyH_take (i:=0) (oi:=⟨some 62,.fieldAddr 26 (.tmp 2) 1,_,_,_,none⟩) (v:=?_) rfl (by kernel_rfl) (by kernel_rfl) (by kernel_rfl) (fun _ _ _ h=>h) (Or.inl ⟨by rfl, ?_⟩) (by assumption) ?_
     rotate_left
     ·intro wq hSw
      obtain ⟨f1,f2,f3,f4,f5⟩:=hSw
      go_simp
      with_reducible rfl
     simp only [Act.put,List.setIfInBounds_toArray,List.set_cons_zero,List.set_cons_succ]
     refine wpAnyH_take (i:=1) (oi:=⟨some 63,.load 9 (.tmp 62),_,_,_,none⟩) (v:=?_) rfl (by kernel_rfl) (by kernel_rfl) (by kernel_rfl) (fun _ _ _ h=>h) (Or.inl ⟨by rfl, ?_⟩) (by assumption) ?_
     rotate_left
     ·intro wq hSw
      obtain ⟨f1,f2,f3,f4,f5⟩:=hSw
      go_simp
      with_reducible rfl
     simp only [Act.put,List.setIfInBounds_toArray,List.set_cons_zero,List.set_cons_succ]
     refine wpAnyH_take (i:=2) (oi:=⟨some 64,.fieldAddr 26 (.tmp 2) 3,_,_,_,none⟩) (v:=?_) rfl (by kernel_rfl) (by kernel_rfl) (by kernel_rfl) (fun _ _ _ h=>h) (Or.inl ⟨by rfl, ?_⟩) (by assumption) ?_
     rotate_left
     ·intro wq hSw
      obtain ⟨f1,f2,f3,f4,f5⟩:=hSw
      go_simp
      with_reducible rfl
     simp only [Act.put,List.setIfInBounds_toArray,List.set_cons_zero,List.set_cons_succ]
     refine wpAnyH_take (i:=3) (oi:=⟨some 65,.load 24 (.tmp 64),_,_,_,none⟩) (v:=?_) rfl (by kernel_rfl) (by kernel_rfl) (by kernel_rfl) (fun _ _ _ h=>h) (Or.inl ⟨by rfl, ?_⟩) (by assumption) ?_
     rotate_left
     ·intro wq hSw
      obtain ⟨f1,f2,f3,f4,f5⟩:=hSw
      go_simp
      with_reducible rfl
     simp only [Act.put,List.setIfInBounds_toArray,List.set_cons_zero,List.set_cons_succ]
     refine wpAnyH_take (i:=4) (oi:=⟨some 66,.indexAddr 24 (.tmp 65) (.const (.int .i64 0)),_,_,_,none⟩) (v:=?_) rfl (by kernel_rfl) (by kernel_rfl) (by kernel_rfl) (fun _ _ _ h=>h) (Or.inl ⟨by rfl, ?_⟩) (by assumption) ?_
     rotate_left
     ·intro wq hSw
      obtain ⟨f1,f2,f3,f4,f5⟩:=hSw
      go_simp
      with_reducible rfl
     simp only [Act.put,List.setIfInBounds_toArray,List.set_cons_zero,List.set_cons_succ]
     refine wpAnyH_take (i:=5) (oi:=⟨some 67,.load 9 (.tmp 66),_,_,_,none⟩) (v:=?_) rfl (by kernel_rfl) (by kernel_rfl) (by kernel_rfl) (fun _ _ _ h=>h) (Or.inl ⟨by rfl, ?_⟩) (by assumption) ?_
     rotate_left
     ·intro wq hSw
      obtain ⟨f1,f2,f3,f4,f5⟩:=hSw
      go_simp
      with_reducible rfl
     simp only [Act.put,List.setIfInBounds_toArray,List.set_cons_zero,List.set_cons_succ]
     refine wpAnyH_take (i:=6) (oi:=⟨some 68,.fieldAddr 26 (.tmp 3) 3,_,_,_,none⟩) (v:=?_) rfl (by kernel_rfl) (by kernel_rfl) (by kernel_rfl) (fun _ _ _ h=>h) (Or.inl ⟨by rfl, ?_⟩) (by assumption) ?_
     rotate_left
     ·intro wq hSw
      obtain ⟨f1,f2,f3,f4,f5⟩:=hSw
      go_simp
      with_reducible rfl
     simp only [Act.put,List.setIfInBounds_toArray,List.set_cons_zero,List.set_cons_succ]
     refine wpAnyH_take (i:=7) (oi:=⟨some 69,.load 24 (.tmp 68),_,_,_,none⟩) (v:=?_) rfl (by kernel_rfl) (by kernel_rfl) (by kernel_rfl) (fun _ _ _ h=>h) (Or.inl ⟨by rfl, ?_⟩) (by assumption) ?_
     rotate_left
     ·intro wq hSw
      obtain ⟨f1,f2,f3,f4,f5⟩:=hSw
      go_simp
      with_reducible rfl
     simp only [Act.put,List.setIfInBounds_toArray,List.set_cons_zero,List.set_cons_succ]
     refine wpAnyH_take (i:=8) (oi:=⟨some 70,.indexAddr 24 (.tmp 69) (.const (.int .i64 0)),_,_,_,none⟩) (v:=?_) rfl (by kernel_rfl) (by kernel_rfl) (by kernel_rfl) (fun _ _ _ h=>h) (Or.inl ⟨by rfl, ?_⟩) (by assumption) ?_
     rotate_left
     ·intro wq hSw
      obtain ⟨f1,f2,f3,f4,f5⟩:=hSw
      go_simp
      with_reducible rfl
     simp only [Act.put,List.setIfInBounds_toArray,List.set_cons_zero,List.set_cons_succ]
     refine wpAnyH_take (i:=9) (oi:=⟨some 71,.load 9 (.tmp 70),_,_,_,none⟩) (v:=?_) rfl (by kernel_rfl) (by kernel_rfl) (by kernel_rfl) (fun _ _ _ h=>h) (Or.inl ⟨by rfl, ?_⟩) (by assumption) ?_
     rotate_left
     ·intro wq hSw
      obtain ⟨f1,f2,f3,f4,f5⟩:=hSw
      go_simp
      with_reducible rfl
     simp only [Act.put,List.setIfInBounds_toArray,List.set_cons_zero,List.set_cons_succ]
     refine wpAnyH_ready (rs:=[10]) (by kernel_rfl) (by simp) ?_
     refine AllReadyH.cons (o:=⟨some 72,.call { callee:=.value (.func 106),args:=#[.tmp 63,.tmp 67,.tmp 71],argTypes:=#[9,9,9] },_,_,_,none⟩) rfl (fun K hK=>?_) ?_
     ·go_simp
      refine (hC _ (Below.refl _ _).drew).mono ?_
      rintro e w3 ⟨⟨r,rfl,ho,hof⟩,b3x⟩
      simp only
      have b3':Below Z.heap.size Z w3:=(by first | exact b3x | exact jd b3x | exact jd (jd b3x) | exact jd (jd (jd b3x)))
      have B3:=d9 b3'
      have HOr:=d9 ho
      have HOf:=d9 hof
      have HK:=d9 (fun (k:Nat) (hk:T k)=>(b3'.block k (Nat.lt_of_lt_of_le (hT k hk) (uh BZw).size)).trans ((uh BZw).block k (hT k hk)))
      have BF:=d9 (((uh BZw).mono hB).trans (b3'.mono (Nat.le_trans hB (uh BZw).size)))
      clear z0 z1 z2 z3 z4 z5 zf
      have q9:=(b3'.block _ l2).trans (uh KZ)
      obtain ⟨z0,z1,z2,z3,z4,z5⟩:=kq q9
      have zf:=fun o=>gy (o:=o) q9
      clear b3x b3' q9 ho hof
      refine hK.out _ _ (uh HS1 _ (uh B3)) (fun hHeld=>?_)
      clear hK K
      refine wpAnyH_take (i:=11) (oi:=⟨some 73,.extract (.tmp 72) 0,_,_,_,none⟩) (v:=?_) rfl (by kernel_rfl) (by kernel_rfl) (by kernel_rfl) (fun _ _ _ h=>h) (Or.inl ⟨by rfl, ?_⟩) (by assumption) ?_
      rotate_left
      ·intro wq hSw
       obtain ⟨f1,f2,f3,f4,f5⟩:=hSw
       go_simp
       with_reducible rfl
      simp only [Act.put,List.setIfInBounds_toArray,List.set_cons_zero,List.set_cons_succ]
      refine wpAnyH_take (i:=12) (oi:=⟨some 74,.extract (.tmp 72) 1,_,_,_,none⟩) (v:=?_) rfl (by kernel_rfl) (by kernel_rfl) (by kernel_rfl) (fun _ _ _ h=>h) (Or.inl ⟨by rfl, ?_⟩) (by assumption) ?_
      rotate_left
      ·intro wq hSw
       obtain ⟨f1,f2,f3,f4,f5⟩:=hSw
       go_simp
       with_reducible rfl
      simp only [Act.put,List.setIfInBounds_toArray,List.set_cons_zero,List.set_cons_succ]
      refine wpAnyH_ready (rs:=[13]) (by kernel_rfl) (by simp) ?_
      refine AllReadyH.cons (o:=⟨none,.store 26 (.tmp 4) (.tmp 73),_,_,_,none⟩) rfl (fun K hK=>?_) ?_
      ·go_simp
       refine hK.out _ _ (uh HS2 _ _ _ _ _ _ _ (uh B3)) (fun hHeld=>?_)
       clear hK K
       refine wpAnyH_take (i:=14) (oi:=⟨some 5,.assign (.tmp 74),_,_,_,none⟩) (v:=?_) rfl (by kernel_rfl) (by kernel_rfl) (by kernel_rfl) (fun _ _ _ h=>h) (Or.inl ⟨by rfl, ?_⟩) (by assumption) ?_
       rotate_left
       ·intro wq hSw
        obtain ⟨f1,f2,f3,f4,f5⟩:=hSw
        go_simp
        with_reducible rfl
       simp only [Act.put,List.setIfInBounds_toArray,List.set_cons_zero,List.set_cons_succ]
       refine wpAnyH_done (by kernel_rfl) ?_ _
       go_wp2
       exact bodyPost_ret (v:=.tuple #[.agg #[.int .i64 r.kind,.string r.attr,.slice r.qi r.ni r.ci,.slice r.qw r.nw r.cw,.int .i64 r.lo,.int .i64 r.hi],.bool (kl a b).isSome]) (by rw [uh HCO];simp [results,Tryz.results50,go_sem, *]) rfl ⟨⟨r,rfl,by rw [uh HCO];exact (((((((uh HOr).setC (uh HOf) (Or.inl rfl) 0 _).setC (uh HOf) (Or.inl rfl) 1 _).setC (uh HOf) (Or.inl rfl) 2 _).setC (uh HOf) (Or.inl rfl) 3 _).setC (uh HOf) (Or.inl rfl) 4 _).setC (uh HOf) (Or.inl rfl) 5 _),(uh HOf).sub⟩,(((((((uh BF).setCell (p:=⟨w.heap.size + 2,0,none⟩) hn2 _).setCell (p:=⟨w.heap.size + 2,1,none⟩) hn2 _).setCell (p:=⟨w.heap.size + 2,2,none⟩) hn2 _).setCell (p:=⟨w.heap.size + 2,3,none⟩) hn2 _).setCell (p:=⟨w.heap.size + 2,4,none⟩) hn2 _).setCell (p:=⟨w.heap.size + 2,5,none⟩) hn2 _),fun k hk=>(l9 (by have:=hT k hk;omega) _ _ _ _ _ _).trans (uh HK k hk)⟩
      exact AllReadyH.nil
     exact AllReadyH.nil
   ·have kk:(A.kind != V.kind)=true:=by rw [(uh HA).1.1,(uh HB).1];simpa using hkk
    have HCO:=d9 (show kl a b=none by unfold kl;rw [if_neg h1,if_neg h2,if_pos hkk])
    clear h1 h2 hkk
    go_wp2
    exact bodyPost_ret (v:=.tuple #[.agg #[.int .i64 0,.string ⟨#[]⟩,.slice none 0 0,.slice none 0 0,.int .i64 0,.int .i64 0],.bool (kl a b).isSome]) (by rw [uh HCO];simp [results,Tryz.results50,go_sem, *]) rfl ⟨⟨pc,rfl,by rw [uh HCO];exact ku _ _,rk _⟩,((((((((uh BZw).mono hB).setCell (p:=⟨w.heap.size + 2,0,none⟩) hn2 _).setCell (p:=⟨w.heap.size + 2,1,none⟩) hn2 _).setCell (p:=⟨w.heap.size + 2,2,none⟩) hn2 _).setCell (p:=⟨w.heap.size + 2,3,none⟩) hn2 _).setCell (p:=⟨w.heap.size + 2,4,none⟩) hn2 _).setCell (p:=⟨w.heap.size + 2,5,none⟩) hn2 _),fun k hk=>(l9 (by have:=hT k hk;omega) _ _ _ _ _ _).trans ((uh BZw).block k (hT k hk))⟩
end Go.Proofs.YtimklglliffpcaaGreat

/- Layer 9's fixed facts. -/
import Derived.Test.YtimklglliffpcaaGreatQCjFix2
import Derived.Test.YtimklglliffpcaaGreatQZad
namespace Go.Proofs.YtimklglliffpcaaGreat
open Go.RowKit Go.Sort Go.Shelf
theorem Xk:Small [P1,P2]:=fun p hp=>by
 simp only [List.mem_cons,List.not_mem_nil,or_false] at hp
 rcases hp with rfl | rfl <;> exact ⟨by decide,by decide⟩
theorem Vr:Small [P3]:=fun p hp=>by
 simp only [List.mem_cons,List.not_mem_nil,or_false] at hp
 rcases hp with rfl
 exact ⟨by decide,by decide⟩
theorem X4 (a b c d e f g h:Value) (w:World):(Instr.field 56 (.agg #[a,b,c,d,e,f,g,h]) 0).run Tryz.prog w=.ok (.agg #[a,b,c,d,e,f]) w:=by kernel_rfl
theorem jn {w W:World} {b:Nat} {o:Obj} (h:w.heap[b]? = some o) (hb:Below w.heap.size w W):W.heap[b]? = some o:=(hb.block _ (jc h)).trans h
set_option maxHeartbeats 16000000 in
set_option maxRecDepth 100000 in
theorem Pw (w:World):Calls Tryz.prog 11 #[] w fun e w'=>e=.returned (.bool true)/\Below w.heap.size w w':=by
 obtain ⟨X,HX⟩:∃ X,w.alloc (.cells #[.int .i64 3,.int .i64 1,.int .i64 5] 3)=X:=⟨_,rfl⟩
 have bX:Below w.heap.size w X:=by rw [<- HX];exact (Below.refl _ _).alloc (Nat.le_refl _) _
 have x8:X.heap[w.heap.size]? = some (.cells #[.int .i64 3,.int .i64 1,.int .i64 5] 3 (0,0)):=by rw [<- HX];exact World.alloc_heap_new _ _
 have hI:=Vi [3,1,5] 3 w.heap.size X x8 (by simp [flatK,List.range_succ,jq]) rfl (by omega)
 have BX:=d9 bX
 clear bX x8
 go_enter Tryz.func11,Tryz.ntmps11
 go_upto_region 2 with (first
  | (go_at_call 43;refine hI.mono ?_;rintro e w1 ⟨⟨v1,rfl,n1⟩,b1⟩;have B1:=d9 b1;have N1:=d9 n1;clear b1 n1)
  | (go_at_call 44;refine (Jf 2 9 _).mono ?_;rintro e w2 ⟨⟨v2,rfl,n2⟩,b2⟩;have B2:=d9 b2;have N2:=d9 n2;clear b2 n2))
 clear hI HX
 obtain ⟨U,HU⟩:∃ U,(w2.alloc (.cells #[.int .i64 v1.kind,.string v1.attr,.slice v1.qi v1.ni v1.ci,.slice v1.qw v1.nw v1.cw,.int .i64 v1.lo,.int .i64 v1.hi,.int .i64 v1.op,.slice v1.qk v1.nk v1.ck] 56)).alloc (.cells #[.int .i64 v2.kind,.string v2.attr,.slice v2.qi v2.ni v2.ci,.slice v2.qw v2.nw v2.cw,.int .i64 v2.lo,.int .i64 v2.hi,.int .i64 v2.op,.slice v2.qk v2.nk v2.ck] 56)=U:=⟨_,rfl⟩
 rw [HU]
 obtain ⟨hA,hB,bU,sU⟩:=Li HU
 have NU1:=d9 ((uh N1).keep (d8 (uh B2) bU))
 have NU2:=d9 ((uh N2).keep bU)
 have BU:=d9 (d8 (uh BX) (d8 (uh B1) (d8 (uh B2) bU)))
 have HA:=d9 hA
 have HB:=d9 hB
 clear HU sU B1 B2 BX N1 N2 bU hA hB
 refine zdy v1 v2 _ _ U (uh HA) (uh HB) (uh NU1) (uh NU2) _ _ _ _ _ _ _ _ _ _ _ _ _ _ _ _ _ _ _ _ _ _ _ _ _ _ _ _ _ _ _ _ _ _ _ _ _ _ _ _ _ _ _ _ _ _ _ _ _ _ _ _ _ _ _ _ _ _ _ _ _ _ _ _ _ _ _ _ _ _ _ _ _ _ _ _ _ _ _ _ _ _ _ _ _ _ _ _ _ _ _ _ _ _ _ _ _ _ _ _ _ _ _ _ _ _ _ _ _ _ _ _ _ _ _ _ _ _ _ _ _ _ _ _ _ _ _ _ _ _ _ _ _ _ _ _ _ _ _ _ _ _ _ _ _ _ _ _ _ _ _ _ _ _ _ (by intro c a o v w h;cases o <;> exact h) ?_
 intro W3 x M t17 t18 t19 t20 t21 t22 t23 t24 t25 t26 t27 t28 t29 t30 b3 hM hx
 have B3:=d9 b3
 have HM:=d9 hM
 have HC:=d9 hx
 clear b3 hM hx
 go_upto_region 4 with (first
  | (go_at_call 44;refine (Jf 5 3 _).mono ?_;rintro e w4 ⟨⟨v5,rfl,n5⟩,b4⟩;have B4:=d9 b4;have N5:=d9 n5;clear b4 n5)
  | (go_at_call 45;refine (Fs v5 false _).mono ?_;rintro e w5 ⟨rfl,b5⟩;have B5:=d9 b5;clear b5)
  | (go_at_call 24;refine (zbc v5 _ _ (jf _ _) ((uh N5).keep (d8 (uh B5) ((Below.refl _ _).alloc (Nat.le_refl _) _)))).mono ?_;rintro e w6 ⟨⟨y,rfl,hy⟩,b6⟩;have B6:=d9 (d8 ((Below.refl w5.heap.size w5).alloc (Nat.le_refl _) _) b6);have HY:=d9 hy;clear b6 hy))
 obtain ⟨U4,HU4⟩:∃ U4,w6.alloc (.cells #[.bool y.never,.slice y.qp y.np y.cp,.slice y.qn y.nn y.cn] 39)=U4:=⟨_,rfl⟩
 rw [HU4]
 have y8:U4.heap[w6.heap.size]? = some (.cells #[.bool y.never,.slice y.qp y.np y.cp,.slice y.qn y.nn y.cn] 39 (0,0)):=by rw [<- HU4];exact World.alloc_heap_new _ _
 have b7:Below w6.heap.size w6 U4:=by rw [<- HU4];exact (Below.refl _ _).alloc (Nat.le_refl _) _
 have B4':=d9 (d8 (uh B4) (d8 (uh B5) (d8 (uh B6) b7)))
 rw [uh HY] at y8
 obtain ⟨d0,d1,d2⟩:=Fj (y8)
 have hCD:=(uh HC).below (uh B4')
 have hMM:=jn (uh HM) (uh B4')
 obtain ⟨nv,qp,np,cp,qn,nn,cn⟩:=x
 obtain ⟨k1,k2,k3,hp,hn⟩:=hCD
 simp only at k1 k2 k3 hp hn hMM
 subst k1 k2 k3
 obtain ⟨m0,m1,m2⟩:=Fj (hMM)
 obtain ⟨bp,op,u,hq,hbp,hu,c0,c1,c2,c3,c4,c5⟩:=hp.at (j:=0) (p:=P1) rfl
 simp only [Nat.zero_mul,Nat.add_zero] at c0 c1 c2 c3 c4 c5
 have hni:u.ni=2:=hu.2.2.1
 rw [hni] at c2
 obtain ⟨bi,oi,hqi,hbi,gi⟩:=mh (j:=1) (x:=5) hu.2.2.2.2.2.2.1 rfl
 rw [hqi] at c2
 have HP:=d9 hp
 have HN:=d9 hn
 have HMM:=d9 hMM
 have hqp:=hq
 subst hq
 clear HU4 y8 b7 B4 B5 B6 hp hn hMM hu hni hqi hqp HC HM N5
 have hlen1:([P1,P2]:List Pd).length=2:=rfl
 have hlen2:([P3]:List Pd).length=1:=rfl
 simp only [hlen1,hlen2] at m0 m1 m2 HMM
 go_upto_region 6 with (fail)
 clear c0 c1 c2 c3 c4 c5 gi d0 d1 d2 m0 m1 m2
 have hfld:=X4
 go_upto_region 7 with (first
  | (go_at_call 44;(with_reducible refine (Jf 1 5 _).mono ?_);rintro e w7 ⟨⟨v7,rfl,n7⟩,b7⟩;have B7:=d9 b7;have N7:=d9 n7;clear b7 n7)
  | (go_at_call 44;(with_reducible refine (Jf 5 9 _).mono ?_);rintro e w8 ⟨⟨v8,rfl,n8⟩,b8⟩;have B8:=d9 b8;have N8:=d9 n8;clear b8 n8)
  | (go_at_call 14;refine (zct v7 v8 _ _ (jf _ _) ((uh N7).keep (d8 (uh B8) ((Below.refl _ _).alloc (Nat.le_refl _) _))) ((uh N8).keep ((Below.refl _ _).alloc (Nat.le_refl _) _))).mono ?_;rintro e w9 ⟨⟨r7,rfl,h9⟩,b9⟩;have B9:=d9 (d8 ((Below.refl w8.heap.size w8).alloc (Nat.le_refl _) _) b9);have P7:=d9 h9;clear b9 h9))
 obtain ⟨U6,HU6⟩:∃ U6,w9.alloc (.cells #[.int .i64 r7.kind,.string r7.attr,.slice r7.qi r7.ni r7.ci,.slice r7.qw r7.nw r7.cw,.int .i64 r7.lo,.int .i64 r7.hi] 26)=U6:=⟨_,rfl⟩
 rw [HU6]
 have H7:=d9 (show U6.heap[w9.heap.size]? = some (.cells #[.int .i64 r7.kind,.string r7.attr,.slice r7.qi r7.ni r7.ci,.slice r7.qw r7.nw r7.cw,.int .i64 r7.lo,.int .i64 r7.hi] 26 (0,0)) by rw [<- HU6];exact World.alloc_heap_new _ _)
 have b7:Below w9.heap.size w9 U6:=by rw [<- HU6];exact (Below.refl _ _).alloc (Nat.le_refl _) _
 have BA6:=d9 (d8 (uh B7) (d8 (uh B8) (d8 (uh B9) b7)))
 have P7':=d9 ((uh P7).keep b7)
 clear HU6 b7 B7 B8 B9 N7 N8 P7
 obtain ⟨X7,HX7⟩:∃ X7,U6.alloc (.cells #[.int .i64 2,.int .i64 1,.int .i64 2] 3)=X7:=⟨_,rfl⟩
 have bX7:Below U6.heap.size U6 X7:=by rw [<- HX7];exact (Below.refl _ _).alloc (Nat.le_refl _) _
 have x7:X7.heap[U6.heap.size]? = some (.cells #[.int .i64 2,.int .i64 1,.int .i64 2] 3 (0,0)):=by rw [<- HX7];exact World.alloc_heap_new _ _
 have hI:=Vi [2,1,2] 3 U6.heap.size X7 x7 (by simp [flatK,List.range_succ,jq]) rfl (by omega)
 have BX7:=d9 bX7
 clear bX7 x7
 go_upto_region 8 with (first
  | (go_at_call 43;refine hI.mono ?_;rintro e w10 ⟨⟨v10,rfl,n10⟩,b10⟩;have B10:=d9 b10;have N10:=d9 n10;clear b10 n10)
  | (go_at_call 16;refine (zcw v10 _ (uh N10)).mono ?_;rintro e w11 ⟨⟨r9,rfl,h11⟩,b11⟩;have B11:=d9 b11;have P9:=d9 h11;clear b11 h11))
 obtain ⟨U7,HU7⟩:∃ U7,w11.alloc (.cells #[.int .i64 r9.kind,.string r9.attr,.slice r9.qi r9.ni r9.ci,.slice r9.qw r9.nw r9.cw,.int .i64 r9.lo,.int .i64 r9.hi] 26)=U7:=⟨_,rfl⟩
 rw [HU7]
 have H9:=d9 (show U7.heap[w11.heap.size]? = some (.cells #[.int .i64 r9.kind,.string r9.attr,.slice r9.qi r9.ni r9.ci,.slice r9.qw r9.nw r9.cw,.int .i64 r9.lo,.int .i64 r9.hi] 26 (0,0)) by rw [<- HU7];exact World.alloc_heap_new _ _)
 have b7:Below w11.heap.size w11 U7:=by rw [<- HU7];exact (Below.refl _ _).alloc (Nat.le_refl _) _
 have BA7:=d9 (d8 (uh BX7) (d8 (uh B10) (d8 (uh B11) b7)))
 have P9':=d9 ((uh P9).keep b7)
 clear HU7 b7 B10 B11 N10 P9 HX7 BX7 hI
 have BU7:=d9 (d8 (uh B3) (d8 (uh B4') (d8 (uh BA6) (uh BA7))))
 obtain ⟨a0,a1,a2,a3,a4,a5,a6,a7⟩:=rj (jn (uh HA) (uh BU7))
 obtain ⟨b0,b1,b2,b3,b4,b5,b6,b7⟩:=rj (jn (uh HB) (uh BU7))
 go_upto_region 9 with (first
  | (go_at_call 47;refine (cOr v1 v2 _ _ (jf _ _) ((uh NU1).keep (d8 (uh BU7) ((Below.refl _ _).alloc (Nat.le_refl _) _))) ((uh NU2).keep (d8 (uh BU7) ((Below.refl _ _).alloc (Nat.le_refl _) _)))).mono ?_;rintro e w12 ⟨⟨v12,rfl,n12⟩,b12⟩;have B12:=d9 (d8 ((Below.refl U7.heap.size U7).alloc (Nat.le_refl _) _) b12);have N12:=d9 n12;clear b12 n12)
  | (go_at_call 33;refine (zdk v12 _ (uh N12)).mono ?_;rintro e w13 ⟨⟨q13,c13,rfl⟩,b13⟩;have B13:=d9 b13;clear b13))
 clear a0 a1 a2 a3 a4 a5 a6 a7 b0 b1 b2 b3 b4 b5 b6 b7
 go_upto_region 10 with (fail)
 obtain ⟨U9,HU9⟩:∃ U9,w13.alloc (.cells #[.string nmA,.int .i64 1,.int .i64 5,.string ⟨#[]⟩,.string nmC,.int .i64 2,.int .i64 0,.string wXY] 86)=U9:=⟨_,rfl⟩
 rw [HU9]
 have e9:U9.heap[w13.heap.size]? = some (.cells #[.string nmA,.int .i64 1,.int .i64 5,.string ⟨#[]⟩,.string nmC,.int .i64 2,.int .i64 0,.string wXY] 86 (0,0)):=by rw [<- HU9];exact World.alloc_heap_new _ _
 have b9:Below w13.heap.size w13 U9:=by rw [<- HU9];exact (Below.refl _ _).alloc (Nat.le_refl _) _
 have hEV:=Z7 (enc:=yq) (k:=4) five 2 e9 (by simp [flatK,List.range_succ,yq,five]) rfl (by unfold maxLen;omega)
 have B79:=d9 (d8 (uh B12) (d8 (uh B13) b9))
 have B69:=d9 (d8 (uh BA7) (uh B79))
 have B49:=d9 (d8 (uh BA6) (uh B69))
 obtain ⟨f0,f1,f2,f3,f4,f5⟩:=kq (jn (uh H7) (uh B69))
 obtain ⟨g0,g1,g2,g3,g4,g5⟩:=kq (jn (uh H9) (uh B79))
 obtain ⟨m0,m1,m2⟩:=Fj (jn (uh HMM) (uh B49))
 have hp7:=(uh P7').keep (uh B69)
 have hp9:=(uh P9').keep (uh B79)
 have hn7:r7.ni=1:=hp7.2.2.1
 have hn9:r9.ni=2:=hp9.2.2.1
 have hpp:=(uh HP).below (uh B49)
 have hnn:=(uh HN).below (uh B49)
 have hCt:=fun W:World=>Jw false (some ⟨bp,op,none⟩) qn cp cn 2 1 W
 have hCk:=fun (W:World) (hW:Below U9.heap.size U9 W)=>Ku false (some ⟨bp,op,none⟩) qn cp cn [P1,P2] [P3] W (hpp.below hW) (hnn.below hW) Xk Vr (by decide) (by decide)
 have hHo:=fun (W:World) (hW:Below U9.heap.size U9 W)=>Jp false (some ⟨bp,op,none⟩) qn cp cn [P1,P2] [P3] (some ⟨w13.heap.size,0,none⟩) 2 five W (hpp.below hW) (hnn.below hW) Xk Vr (by decide) (by decide) (hEV.below hW) (by decide)
 have hCm:=fun (W:World) (hW:Below U9.heap.size U9 W)=>yn r7 r9 ⟨1,nmA,[5],[],0,0⟩ ⟨1,nmA,[1,2],[],0,0⟩ W (hp7.keep hW) (hp9.keep hW) ⟨by decide,by decide⟩
 rw [zc0] at hCk
 rw [zaa] at hHo
 rw [zdx] at hCm
 unfold Pv.val at hCm
 simp only [hlen1,hlen2,show five.length=2 from rfl] at hCk hHo
 have HF6:=d9 (jn (uh H7) (uh B69))
 have HF9:=d9 (jn (uh H9) (uh B79))
 have HFM:=d9 (jn (uh HMM) (uh B49))
 have BF:=d9 (d8 (uh BU) (d8 (uh BU7) (uh B79)))
 rw [hn7] at f2
 rw [hn9] at g2
 simp only [hn7,hn9] at hCm
 have HN7:=d9 hn7
 have HN9:=d9 hn9
 clear HU9 e9 b9 hEV hp7 hp9 hpp hnn hn7 hn9
 go_wp2_with (first
  | (go_at_call 30;refine (hCt _).mono ?_;rintro e wa ⟨rfl,ba⟩;have BAa:=d9 ba;obtain ⟨ma0,ma1,ma2⟩:=Fj (jn (uh HFM) ba);clear ba)
  | (go_at_call 29;refine (hCk _ (uh BAa)).mono ?_;rintro e wb ⟨rfl,bb⟩;have BAb:=d9 (d8 (uh BAa) bb);obtain ⟨mb0,mb1,mb2⟩:=Fj (jn (uh HFM) (d8 (uh BAa) bb));clear bb)
  | (go_at_call 31;refine (hHo _ (uh BAb)).mono ?_;rintro e wc ⟨rfl,bc⟩;have BAc:=d9 (d8 (uh BAb) bc);obtain ⟨fc0,fc1,fc2,fc3,fc4,fc5⟩:=kq (jn (uh HF6) (d8 (uh BAb) bc));obtain ⟨gc0,gc1,gc2,gc3,gc4,gc5⟩:=kq (jn (uh HF9) (d8 (uh BAb) bc));rw [uh HN7] at fc2;rw [uh HN9] at gc2;clear bc)
  | (go_at_call 20;refine (hCm _ (uh BAc)).mono ?_;rintro e wd ⟨rfl,bd⟩;have BAd:=d9 (d8 (uh BAc) bd);clear bd))
 go_ret
 exact ⟨rfl,d8 (uh BF) (uh BAd)⟩
end Go.Proofs.YtimklglliffpcaaGreat

/- Merging two rising lists, each member once. -/
import Derived.Test.YtimklglliffpcaaGreatQZal
import Derived.Test.YtimklglliffpcaaGreatQCjMeetsQ
import Derived.Deep.Cut
import Derived.Deep.CutRange
import Derived.Test.YtimklglliffpcaaGreatQZRp
namespace Go.Proofs.YtimklglliffpcaaGreat
open Go.RowKit Go.Sort Go.Shelf
def Ris {α:Type} (c:α->α->Int) (l:List α):Prop:=l.Pairwise (fun x y=>c x y < 0)
/-- The same members, each once, rising. -/
def Sm {α:Type} (c:α->α->Int) (L l:List α):Prop:=(∀ x,x ∈ L ↔ x ∈ l)/\L.length<=l.length/\Ris c L
/-- What is merged so far: of what was taken; nothing ahead of it is left. -/
def Mg {α:Type} (c:α->α->Int) (a b:List α) (i j:Nat) (out:List α):Prop:=(∀ x,x ∈ out ↔ x ∈ a.take i ∨ x ∈ b.take j)/\out.length<=i + j/\Ris c out/\∀ z ∈ out,∀ y,y ∈ a.drop i ∨ y ∈ b.drop j->c z y<=0
theorem Mg.start {α:Type} (c:α->α->Int) (a b:List α):Mg c a b 0 0 []:=⟨fun x=>by simp,by simp,List.Pairwise.nil,fun z hz=>by simp at hz⟩
theorem Mg.swap {α:Type} {c:α->α->Int} {a b:List α} {i j:Nat} {out:List α} (h:Mg c a b i j out):Mg c b a j i out:=⟨fun x=>(h.1 x).trans Or.comm,by have:=h.2.1;omega,h.2.2.1,fun z hz y hy=>h.2.2.2 z hz y hy.symm⟩
theorem mt {α:Type} {a:List α} {i:Nat} {x:α} (hx:a[i]? = some x):a.drop i=x :: a.drop (i + 1):=by
 obtain ⟨hi,rfl⟩:=List.getElem?_eq_some_iff.1 hx
 exact List.drop_eq_getElem_cons hi
theorem H4 {α:Type} {c:α->α->Int} {a:List α} {i:Nat} {x:α} (ha:Ris c a) (hx:a[i]? = some x):∀ y ∈ a.drop (i + 1),c x y < 0:=by
 have h:Ris c (a.drop i):=List.Pairwise.sublist (List.drop_sublist i a) ha
 rw [mt hx] at h
 exact (List.pairwise_cons.1 h).1
theorem xy {α:Type} {c:α->α->Int} (hc:IsCmp c) {b:List α} {j:Nat} {x t:α} (hb:Ris c b) (ht:b[j]? = some t) (h:c x t<=0):∀ y ∈ b.drop j,c x y<=0:=fun y hy=>by
 rw [mt ht] at hy
 rcases List.mem_cons.1 hy with rfl | hy
 ·exact h
 ·exact hc.trans x t y h (by have:=H4 hb ht y hy;omega)
theorem se {α:Type} {c:α->α->Int} {b:List α} {x:α}:∀ y ∈ b.drop b.length,c x y<=0:=fun y hy=>by rw [List.drop_length] at hy;simp at hy
theorem yt {α:Type} {c:α->α->Int} (hc:IsCmp c) {x t:α} (h:¬ c x t<=0):c t x<=0:=by have:=hc.neg x t;omega
theorem Ph {a b:Int} (h:a<=b):kc a b<=0:=by unfold kc;split <;> (try split) <;> omega
theorem Jc {a b:Int} (h:¬ a<=b):¬ kc a b<=0:=by unfold kc;split <;> (try split) <;> omega
theorem Mg.left {α:Type} {c:α->α->Int} (hc:IsCmp c) {a b:List α} {i j:Nat} {out:List α} (h:Mg c a b i j out) (ha:Ris c a) {x:α} (hx:a[i]? = some x) (hmin:∀ y ∈ b.drop j,c x y<=0) (hl:∀ z,out.getLast? = some z->z ≠ x):Mg c a b (i + 1) j (out ++ [x]):=by
 refine ⟨fun z=>?_,by have:=h.2.1;simp;omega, ?_,fun z hz y hy=>?_⟩
 ·rw [List.take_add_one,hx,List.mem_append,h.1 z,List.mem_append]
  simp only [Option.toList,List.mem_singleton]
  constructor
  ·rintro ((h | h) | h) <;> simp [h]
  ·rintro ((h | h) | h) <;> simp [h]
 ·refine List.pairwise_append.2 ⟨h.2.2.1,List.pairwise_singleton _ _,fun z hz y hy=>?_⟩
  obtain rfl:y=x:=by simpa using hy
  have h1:=h.2.2.2 z hz y (Or.inl (by rw [mt hx];simp))
  by_cases h0:c z y=0
  ·exfalso
   obtain rfl:=(hc.eq z y).1 h0
   obtain ⟨zs,v,rfl⟩:∃ zs v,out=zs ++ [v]:=⟨out.dropLast,out.getLast (List.ne_nil_of_mem hz),(List.dropLast_concat_getLast _).symm⟩
   have hv:v ≠ z:=hl v (by simp)
   have hz':z ∈ zs:=by
    rcases List.mem_append.1 hz with h | h
    ·exact h
    ·exact absurd (by simpa using h:z=v).symm hv
   have h2:=(List.pairwise_append.1 h.2.2.1).2.2 z hz' v (by simp)
   have h3:=h.2.2.2 v (by simp) z (Or.inl (by rw [mt hx];simp))
   have:=hc.neg z v
   omega
  ·omega
 ·rcases List.mem_append.1 hz with hz | hz
  ·exact h.2.2.2 z hz y (hy.imp (fun hy=>by rw [mt hx];exact List.mem_cons_of_mem _ hy) id)
  ·obtain rfl:z=x:=by simpa using hz
   rcases hy with hy | hy
   ·have:=H4 ha hx y hy;omega
   ·exact hmin y hy
theorem Mg.leftS {α:Type} {c:α->α->Int} {a b:List α} {i j:Nat} {out:List α} (h:Mg c a b i j out) {x:α} (hx:a[i]? = some x) (hm:x ∈ out):Mg c a b (i + 1) j out:=by
 refine ⟨fun z=>?_,by have:=h.2.1;omega,h.2.2.1,fun z hz y hy=>h.2.2.2 z hz y (hy.imp (fun hy=>by rw [mt hx];exact List.mem_cons_of_mem _ hy) id)⟩
 rw [List.take_add_one,hx,h.1 z,List.mem_append]
 simp only [Option.toList,List.mem_singleton]
 constructor
 ·rintro (h | h) <;> simp [h]
 ·rintro ((h1 | h1) | h1)
  ·exact Or.inl h1
  ·subst h1;exact (h.1 z).1 hm
  ·exact Or.inr h1
theorem Mg.right {α:Type} {c:α->α->Int} (hc:IsCmp c) {a b:List α} {i j:Nat} {out:List α} (h:Mg c a b i j out) (hb:Ris c b) {x:α} (hx:b[j]? = some x) (hmin:∀ y ∈ a.drop i,c x y<=0) (hl:∀ z,out.getLast? = some z->z ≠ x):Mg c a b i (j + 1) (out ++ [x]):=(h.swap.left hc hb hx hmin hl).swap
theorem Mg.rightS {α:Type} {c:α->α->Int} {a b:List α} {i j:Nat} {out:List α} (h:Mg c a b i j out) {x:α} (hx:b[j]? = some x) (hm:x ∈ out):Mg c a b i (j + 1) out:=(h.swap.leftS hx hm).swap
theorem Mg.done {α:Type} {c:α->α->Int} {l a d out:List α} {m i j:Nat} (h:Mg c a d i j out) (ha:Sm c a (l.take m)) (hd:Sm c d (l.drop m)) (hi:i=a.length) (hj:j=d.length):Sm c out l:=by
 subst hi
 subst hj
 refine ⟨fun x=>?_, ?_,h.2.2.1⟩
 ·rw [h.1,List.take_of_length_le (Nat.le_refl _),List.take_of_length_le (Nat.le_refl _),ha.1,hd.1,<- List.mem_append,List.take_append_drop]
 ·have h1:=h.2.1
  have h2:=ha.2.1
  have h3:=hd.2.1
  rw [List.length_take] at h2
  rw [List.length_drop] at h3
  omega
theorem Jj {α:Type} (c:α->α->Int) {l:List α} (h:l.length < 2):Sm c l l:=by
 refine ⟨fun _=>Iff.rfl,Nat.le_refl _, ?_⟩
 match l,h with
 | [],_=>exact List.Pairwise.nil
 | [x],_=>exact List.pairwise_singleton _ _
theorem sw {α:Type} {out:List α} {e:Nat} {z:α} (hz:out[e]? = some z) (he:out.length=e + 1):out.getLast? = some z:=by
 rw [List.getLast?_eq_getElem?,he]
 exact hz
theorem Qu {L l:List Int} (h:Sm kc L l):L=mx l:=(pj h.1 (h.2.2.imp fun hab=>by
 unfold kc at hab
 split at hab
 ·assumption
 ·split at hab <;> omega)).symm
theorem Tm {L l:List ByteArray} (h:Sm kp L l):L=mq l:=(rn h.1 (h.2.2.imp fun hab=>hab)).symm
theorem OwnK.someG {α:Type} [Inhabited α] {enc:α->List Value} {e:TypeId} {k B cap:Nat} {w:World} {q:Option Addr} {l:List α} (h:OwnK enc e k B w q cap l) (h0:0 < l.length):∃ g,q=some ⟨g,0,none⟩/\B<=g/\g < w.heap.size:=by
 rcases h.2 with ⟨h1,h2⟩ | ⟨g,cap',cur,hv,hB,hblk,hc,hm,_⟩
 ·omega
 ·injection hv with h1 h2 h3
  exact ⟨g,h1,hB,(Array.getElem?_eq_some_iff.1 hblk).1⟩
theorem ru (w:World) (x:Int):Cg jq 1 (w.alloc (.cells #[.int .i64 x] 3)) (some ⟨w.heap.size,0,none⟩) 1 [x]:=by
 refine ⟨(fun h=>by cases h),fun ad e j u hj=>?_⟩
 cases e
 rw [vl] at hj
 exact zj (World.alloc_heap_new _ _) j u hj
theorem ro (w:World) (x:ByteArray):Cg jy 1 (w.alloc (.cells #[.string x] 9)) (some ⟨w.heap.size,0,none⟩) 1 [x]:=by
 refine ⟨(fun h=>by cases h),fun ad e j u hj=>?_⟩
 cases e
 rw [vj] at hj
 exact zu (World.alloc_heap_new _ _) j u hj
end Go.Proofs.YtimklglliffpcaaGreat
namespace Go.Proofs.YtimklglliffpcaaGreat
open Go.RowKit Go.Sort Go.Shelf
def Ba (l:List Int):Prop:=∀ (q:Option Addr) (c:Nat) (w:World),SlOf jq 1 w q c l->Calls Tryz.prog 61 #[.slice q l.length c] w fun e w'=>(∃ L q' c',e=.returned (.slice q' L.length c')/\OwnK jq 3 1 w.heap.size w' q' c' L/\Sm kc L l)/\Below w.heap.size w w'
set_option maxHeartbeats 1000000 in
set_option maxRecDepth 100000 in
theorem zm (l:List Int) (h:l.length < 2):Ba l:=by
 intro q c w hs
 have h2:(l.length:Int) < 2:=by omega
 have hA:=(Below.refl w.heap.size w).alloc (Nat.le_refl _) (.cells #[] 3)
 have HS:=d9 (hs.below hA)
 clear hs
 go_enter Tryz.func61,Tryz.ntmps61
 go_wp2_with (at_builtin;refine jm Kf rfl _ _ rfl w.heap.size (some ⟨w.heap.size,0,none⟩) 0 [] q c l 0 l.length l.length rfl rfl (by omega) rfl rfl (OwnK.made _ _ (Nat.le_refl _)) (uh HS).src (by unfold maxLen;omega) (by omega) (by simp) ?_;intro q3 c3 w3 ho3 hb3 _ _;have HO:=d9 ho3;have HB:=d9 (hA.trans hb3);clear ho3 hb3)
 go_ret
 exact ⟨⟨l,q3,c3,rfl,by simpa using uh HO,Jj kc h⟩,uh HB⟩
set_option maxHeartbeats 8000000 in
set_option maxRecDepth 100000 in
theorem Kv (l:List Int) (h2:2<=l.length) (hl:l.length * 16<=140737488355328) (m n:Nat) (hm:l.length / 2=m) (hn:l.length - m=n) (h1:Ba (l.take m)) (h3:Ba (l.drop m)):Ba l:=by
 intro q c w hs
 have mixed:Tryz.prog.follows .mixedOrders=true:=by kernel_rfl
 have hlc:=hs.2.1
 obtain ⟨b,off,rfl,hbw,_⟩:=hs.2.2.2 (by omega)
 obtain ⟨c2,hc2⟩:∃ c2,c - m=c2:=⟨_,rfl⟩
 have hC1:∀ W,Below w.heap.size w W->Calls Tryz.prog 61 #[.slice (some ⟨b,off,none⟩) m c] W fun e w'=>∃ a q1 c1,e=.returned (.slice q1 a.length c1)/\SlOf jq 1 w' q1 c1 a/\Sm kc a (l.take m)/\Below w.heap.size w w'/\Below W.heap.size W w':=fun W hW=>by
  have:=h1 (some ⟨b,off,none⟩) c W ((Jb (by decide) hs m).below hW)
  rw [List.length_take,Nat.min_eq_left (by omega)] at this
  exact this.mono fun e w' ⟨⟨a,q',c',he,ho,hs⟩,hb⟩=>⟨a,q',c',he,ho.ls,hs,d8 hW hb,hb⟩
 have hC2:∀ W,Below w.heap.size w W->Calls Tryz.prog 61 #[.slice (some ⟨b,off + m,none⟩) n c2] W fun e w'=>∃ a q1 c1,e=.returned (.slice q1 a.length c1)/\SlOf jq 1 w' q1 c1 a/\Sm kc a (l.drop m)/\Below w.heap.size w w'/\Below W.heap.size W w':=fun W hW=>by
  have:=h3 (some ⟨b,off + m * 1,none⟩) (c - m) W ((G5 (by decide) hs m (by omega)).below hW)
  rw [List.length_drop,hn,hc2,Nat.mul_one] at this
  exact this.mono fun e w' ⟨⟨a,q',c',he,ho,hs⟩,hb⟩=>⟨a,q',c',he,ho.ls,hs,d8 hW hb,hb⟩
 have g0:¬ (l.length:Int) < 2:=by omega
 have g1:(l.length:Int) / 2=(m:Int):=by omega
 have g2:(0:Int)<=(m:Int):=by omega
 have g3:(m:Int)<=(c:Int):=by omega
 have g4:(m:Int)<=(l.length:Int):=by omega
 have g5:(l.length:Int)<=(c:Int):=by omega
 have g6:¬ c=m:=by omega
 have g7:(l.length:Int)<=8796093022208:=by omega
 have g8:(l.length:Int).tdiv 2=(m:Int):=by rw [Int.tdiv_eq_ediv_of_nonneg (by omega)];omega
 have g9:=yx m (by omega)
 have HN:=d9 hn
 have HM:=d9 hm
 have HC:=d9 hc2
 clear h1 h3 hs
 go_enter Tryz.func61,Tryz.ntmps61
 go_wp2
 go_cut [3,4] from 15 (fun s3 s4 V=>∃ (a d:List Int) (q1 q2:Option Addr) (c1 c3:Nat),s3=.slice q1 a.length c1/\s4=.slice q2 d.length c3/\SlOf jq 1 V q1 c1 a/\SlOf jq 1 V q2 c3 d/\Hid (Sm kc a (l.take m))/\Hid (Sm kc d (l.drop m))/\Below w.heap.size w V)
 case first =>
  go_region_held3 (fun _=>True) (go_keep) (first
   | (go_at_call 61;(with_reducible refine (hC1 _ (by first | exact uh B2 | exact (Below.refl _ _).drew | exact Below.refl _ _)).mono ?_);rintro e w1 ⟨a,q1,c1,rfl,s1,e1,bw1,bb1⟩;have E1:=d9 e1;have S1:=d9 s1;(first | have S2':=d9 ((uh S2).below bb1) | skip);have B1:=d9 bw1;clear s1 e1 bw1 bb1)
   | (go_at_call 61;(with_reducible refine (hC2 _ (by first | exact uh B1 | exact (Below.refl _ _).drew | exact Below.refl _ _)).mono ?_);rintro e w2 ⟨d,q2,c3,rfl,s2,e2,bw2,bb2⟩;have E2:=d9 e2;have S2:=d9 s2;(first | have S1':=d9 ((uh S1).below bb2) | skip);have B2:=d9 bw2;clear s2 e2 bw2 bb2))
  all_goals
   go_wp2
   go_meet
   first
    | exact ⟨a,d,q1,q2,c1,c3,rfl,rfl,uh S1',uh S2,E1,E2,uh B2⟩
    | exact ⟨a,d,q1,q2,c1,c3,rfl,rfl,uh S1,uh S2',E1,E2,uh B1⟩
 case rest =>
  obtain ⟨a,d,q1,q2,c1,c3,rfl,rfl,s1,s2,E1,E2,bw⟩:=hcut
  obtain ⟨W,rfl⟩:∃ W,W=wc:=⟨_,rfl⟩
  have S1:=d9 s1
  have S2:=d9 s2
  have BW:=d9 bw
  have la:a.length<=m:=by have:=(uh E1).2.1;rw [List.length_take] at this;omega
  have ld:d.length<=n:=by have:=(uh E2).2.1;rw [List.length_drop] at this;omega
  have i9:(a.length:Int)<=8796093022208:=by omega
  have j9:(d.length:Int)<=8796093022208:=by omega
  have ad9:a.length + d.length<=l.length:=by omega
  clear hC1 hC2 s1 s2 bw g1 g2 g3 g4 g5 g6 g8 g9 hn hc2 hm
  go_wp2
  go_loopw [5,6,7] (fun ov iv jv wr=>∃ (i j:Nat) (out:List Int) (qo:Option Addr) (co:Nat),i<=a.length/\j<=d.length/\ov=.slice qo out.length co/\iv=.int .i64 i/\jv=.int .i64 j/\Hid (Mg kc a d i j out)/\Hid (OwnK jq 3 1 W.heap.size wr qo co out)/\Hid (Below W.heap.size W wr)) (fun _ iv jv _=>(a.length + d.length) - ((intOf iv).toNat + (intOf jv).toNat))
  case atStart=>exact ⟨0,0,[],none,0,Nat.zero_le _,Nat.zero_le _,rfl,rfl,rfl,d9 (Mg.start _ _ _),d9 (OwnK.nil _ _),d9 (Below.refl _ _)⟩
  case round =>
   obtain ⟨i,j,out,qo,co,hi,hj,rfl,rfl,rfl,HMr,HO,HB⟩:=hrel
   have lo:out.length<=i + j:=(uh HMr).2.1
   have HLO:=d9 lo
   by_cases hdone:i=a.length/\j=d.length
   ·obtain ⟨rfl,rfl⟩:=hdone
    have t1:¬ (a.length:Int) < (a.length:Int):=by omega
    have t2:¬ (d.length:Int) < (d.length:Int):=by omega
    clear lo
    go_wp2
    go_ret
    exact ⟨⟨out,qo,co,rfl,(uh HO).mono (uh BW).size,(uh HMr).done (uh E1) (uh E2) rfl rfl⟩,d8 (uh BW) (uh HB)⟩
   ·by_cases hij:i < a.length/\j < d.length
    ·have hi1:i < a.length:=hij.1
     have hj1:j < d.length:=hij.2
     obtain ⟨x,hx,_⟩:=je hi1
     obtain ⟨bx,ox,hqx,hbx,xc⟩:=mh (uh S1) hx
     subst hqx
     obtain ⟨t,ht,_⟩:=je hj1
     obtain ⟨bt,ot,hqt,hbt,tc⟩:=mh (uh S2) ht
     subst hqt
     have x0:=tf (uh HB) hbx xc
     have t0:=tf (uh HB) hbt tc
     have c1:(i:Int) < (a.length:Int):=by omega
     have c2:(j:Int) < (d.length:Int):=by omega
     have c0:(0:Int)<=(i:Int):=by omega
     have e0:(0:Int)<=(j:Int):=by omega
     have eb:((j:Int) == (d.length:Int))=false:=by rw [beq_eq_false_iff_ne];omega
     have HXX:=d9 hx
     have HTT:=d9 ht
     clear lo hx ht
     by_cases hc:x<=t
     ·go_wp2
      refine wp_region_quiet_below (by assumption) (by kernel_rfl) ?_
      repeat (go_big_quiet_step (fail))
      refine wpQuiet_nil ?_
      intro _ hw'
      obtain ⟨⟨dq,osq⟩,hw''⟩:=hw'
      subst hw''
      have B4:=d9 (d8 (uh HB) (below_regrown wr dq osq))
      have HO4:=d9 ((uh HO).below (below_regrown wr dq osq))
      generalize grow (redrawn wr dq) osq=V4 at B4 HO4 ⊢
      clear t0
      clear x0
      have x1:=((uh B4).cell (p:=⟨bx,_,none⟩) hbx).trans xc
      have hs4:W.heap.size<=V4.heap.size:=(uh B4).size
      by_cases hout:out.length=0
      ·obtain rfl:out=[]:=List.length_eq_zero_iff.1 hout
       go_wp2_with (at_builtin;refine jm Kf rfl _ _ rfl W.heap.size qo co [] (some ⟨V4.heap.size,0,none⟩) 1 [x] 0 1 (0 + 1) rfl rfl rfl rfl rfl ((uh HO4).below ((Below.refl _ _).alloc (Nat.le_refl _) _)) (ru _ _) (by have:=uh HLO;unfold maxLen;omega) (by have:=uh HLO;omega) (by simp;omega) ?_;intro q5 c5 w5 ho5 hb5 _ _;have HO5:=d9 ho5;have HB5:=d9 ((uh B4).trans (((Below.refl W.heap.size V4).alloc hs4 _).trans hb5));clear ho5 hb5)
       go_roundw
       case rel=>exact ⟨i + 1,j,[] ++ [x],q5,c5,by omega,by omega,rfl,by go_num,by go_num,d9 ((uh HMr).left kh (uh E1).2.2 (uh HXX) (xy kh (uh E2).2.2 (uh HTT) (Ph (by omega))) (fun z hz=>by simp at hz)),HO5,HB5⟩
       case measure=>simp [intOf];omega
      ·obtain ⟨e,he⟩:∃ e,out.length=e + 1:=⟨out.length - 1,by omega⟩
       obtain ⟨z,hz,_⟩:=je (l:=out) (k:=e) (by omega)
       obtain ⟨g,hqo,hBg,hgw⟩:=(uh HO4).someG (by omega)
       subst hqo
       obtain ⟨gz,oz,hqz,hbz,zc⟩:=mh (uh HO4).ls hz
       cases hqz
       rw [Nat.zero_add] at zc
       have e1:(0:Int)<=(e:Int):=by omega
       have e2:(e:Int) < (e:Int) + 1:=by omega
       have e3:(((e:Int) + 1) == 0)=false:=by rw [beq_eq_false_iff_ne];omega
       have e4:(e:Int)<=8796093022208:=by have:=uh HLO;omega
       have HE0:=d9 he
       have HZ:=d9 (List.mem_of_getElem? hz)
       have HZL:=d9 (sw hz he)
       clear hz
       by_cases hzx:z=x
       ·have hne:(z != x)=false:=by simp [hzx]
        have HMn:Hid (Mg kc a d (i + 1) (j) out):=d9 ((uh HMr).leftS (uh HXX) (by rw [<- hzx];exact uh HZ))
        clear hzx
        go_wp2
        go_roundw
        case rel=>exact ⟨i + 1,j,out,some ⟨g,0,none⟩,co,by omega,by omega,by rw [uh HE0],by go_num,by go_num,HMn,HO4,B4⟩
        case measure=>simp [intOf];omega
       ·have hne:(z != x)=true:=by simpa using hzx
        have HMn:Hid (Mg kc a d (i + 1) (j) (out ++ [x])):=d9 ((uh HMr).left kh (uh E1).2.2 (uh HXX) (xy kh (uh E2).2.2 (uh HTT) (Ph (by omega))) (fun y hy=>by rw [uh HZL] at hy;cases hy;exact hzx))
        clear hzx
        go_wp2_with (at_builtin;refine jm Kf rfl _ _ rfl W.heap.size (some ⟨g,0,none⟩) co out (some ⟨V4.heap.size,0,none⟩) 1 [x] out.length 1 (out.length + 1) (by rw [uh HE0]) rfl rfl rfl rfl ((uh HO4).below ((Below.refl _ _).alloc (Nat.le_refl _) _)) (ru _ _) (by have:=uh HLO;unfold maxLen;omega) (by have:=uh HLO;omega) (by simp;omega) ?_;intro q5 c5 w5 ho5 hb5 _ _;have HO5:=d9 ho5;have HB5:=d9 ((uh B4).trans (((Below.refl W.heap.size V4).alloc hs4 _).trans hb5));clear ho5 hb5)
        go_roundw
        case rel=>exact ⟨i + 1,j,out ++ [x],q5,c5,by omega,by omega,by rw [List.length_append,uh HE0];rfl,by go_num,by go_num,HMn,HO5,HB5⟩
        case measure=>simp [intOf];omega
     ·go_wp2
      refine wp_region_quiet_below (by assumption) (by kernel_rfl) ?_
      repeat (go_big_quiet_step (fail))
      refine wpQuiet_nil ?_
      intro _ hw'
      obtain ⟨⟨dq,osq⟩,hw''⟩:=hw'
      subst hw''
      have B4:=d9 (d8 (uh HB) (below_regrown wr dq osq))
      have HO4:=d9 ((uh HO).below (below_regrown wr dq osq))
      generalize grow (redrawn wr dq) osq=V4 at B4 HO4 ⊢
      clear x0
      clear t0
      have t1:=((uh B4).cell (p:=⟨bt,_,none⟩) hbt).trans tc
      have hs4:W.heap.size<=V4.heap.size:=(uh B4).size
      by_cases hout:out.length=0
      ·obtain rfl:out=[]:=List.length_eq_zero_iff.1 hout
       go_wp2_with (at_builtin;refine jm Kf rfl _ _ rfl W.heap.size qo co [] (some ⟨V4.heap.size,0,none⟩) 1 [t] 0 1 (0 + 1) rfl rfl rfl rfl rfl ((uh HO4).below ((Below.refl _ _).alloc (Nat.le_refl _) _)) (ru _ _) (by have:=uh HLO;unfold maxLen;omega) (by have:=uh HLO;omega) (by simp;omega) ?_;intro q5 c5 w5 ho5 hb5 _ _;have HO5:=d9 ho5;have HB5:=d9 ((uh B4).trans (((Below.refl W.heap.size V4).alloc hs4 _).trans hb5));clear ho5 hb5)
       go_roundw
       case rel=>exact ⟨i,j + 1,[] ++ [t],q5,c5,by omega,by omega,rfl,by go_num,by go_num,d9 ((uh HMr).right kh (uh E2).2.2 (uh HTT) (xy kh (uh E1).2.2 (uh HXX) (yt kh (Jc (by omega)))) (fun z hz=>by simp at hz)),HO5,HB5⟩
       case measure=>simp [intOf];omega
      ·obtain ⟨e,he⟩:∃ e,out.length=e + 1:=⟨out.length - 1,by omega⟩
       obtain ⟨z,hz,_⟩:=je (l:=out) (k:=e) (by omega)
       obtain ⟨g,hqo,hBg,hgw⟩:=(uh HO4).someG (by omega)
       subst hqo
       obtain ⟨gz,oz,hqz,hbz,zc⟩:=mh (uh HO4).ls hz
       cases hqz
       rw [Nat.zero_add] at zc
       have e1:(0:Int)<=(e:Int):=by omega
       have e2:(e:Int) < (e:Int) + 1:=by omega
       have e3:(((e:Int) + 1) == 0)=false:=by rw [beq_eq_false_iff_ne];omega
       have e4:(e:Int)<=8796093022208:=by have:=uh HLO;omega
       have HE0:=d9 he
       have HZ:=d9 (List.mem_of_getElem? hz)
       have HZL:=d9 (sw hz he)
       clear hz
       by_cases hzx:z=t
       ·have hne:(z != t)=false:=by simp [hzx]
        have HMn:Hid (Mg kc a d (i) (j + 1) out):=d9 ((uh HMr).rightS (uh HTT) (by rw [<- hzx];exact uh HZ))
        clear hzx
        go_wp2
        go_roundw
        case rel=>exact ⟨i,j + 1,out,some ⟨g,0,none⟩,co,by omega,by omega,by rw [uh HE0],by go_num,by go_num,HMn,HO4,B4⟩
        case measure=>simp [intOf];omega
       ·have hne:(z != t)=true:=by simpa using hzx
        have HMn:Hid (Mg kc a d (i) (j + 1) (out ++ [t])):=d9 ((uh HMr).right kh (uh E2).2.2 (uh HTT) (xy kh (uh E1).2.2 (uh HXX) (yt kh (Jc (by omega)))) (fun y hy=>by rw [uh HZL] at hy;cases hy;exact hzx))
        clear hzx
        go_wp2_with (at_builtin;refine jm Kf rfl _ _ rfl W.heap.size (some ⟨g,0,none⟩) co out (some ⟨V4.heap.size,0,none⟩) 1 [t] out.length 1 (out.length + 1) (by rw [uh HE0]) rfl rfl rfl rfl ((uh HO4).below ((Below.refl _ _).alloc (Nat.le_refl _) _)) (ru _ _) (by have:=uh HLO;unfold maxLen;omega) (by have:=uh HLO;omega) (by simp;omega) ?_;intro q5 c5 w5 ho5 hb5 _ _;have HO5:=d9 ho5;have HB5:=d9 ((uh B4).trans (((Below.refl W.heap.size V4).alloc hs4 _).trans hb5));clear ho5 hb5)
        go_roundw
        case rel=>exact ⟨i,j + 1,out ++ [t],q5,c5,by omega,by omega,by rw [List.length_append,uh HE0];rfl,by go_num,by go_num,HMn,HO5,HB5⟩
        case measure=>simp [intOf];omega
    ·by_cases hi1:i < a.length
     ·obtain rfl:j=d.length:=by omega
      obtain ⟨x,hx,_⟩:=je hi1
      obtain ⟨bx,ox,hqx,hbx,xc⟩:=mh (uh S1) hx
      subst hqx
      have x0:=tf (uh HB) hbx xc
      have c1:(i:Int) < (a.length:Int):=by omega
      have c0:(0:Int)<=(i:Int):=by omega
      have HXX:=d9 hx
      clear lo hx
      go_wp2
      refine wp_region_quiet_below (by assumption) (by kernel_rfl) ?_
      repeat (go_big_quiet_step (fail))
      refine wpQuiet_nil ?_
      intro _ hw'
      obtain ⟨⟨dq,osq⟩,hw''⟩:=hw'
      subst hw''
      have B4:=d9 (d8 (uh HB) (below_regrown wr dq osq))
      have HO4:=d9 ((uh HO).below (below_regrown wr dq osq))
      generalize grow (redrawn wr dq) osq=V4 at B4 HO4 ⊢
      clear x0
      have x1:=((uh B4).cell (p:=⟨bx,_,none⟩) hbx).trans xc
      have hs4:W.heap.size<=V4.heap.size:=(uh B4).size
      by_cases hout:out.length=0
      ·obtain rfl:out=[]:=List.length_eq_zero_iff.1 hout
       go_wp2_with (at_builtin;refine jm Kf rfl _ _ rfl W.heap.size qo co [] (some ⟨V4.heap.size,0,none⟩) 1 [x] 0 1 (0 + 1) rfl rfl rfl rfl rfl ((uh HO4).below ((Below.refl _ _).alloc (Nat.le_refl _) _)) (ru _ _) (by have:=uh HLO;unfold maxLen;omega) (by have:=uh HLO;omega) (by simp;omega) ?_;intro q5 c5 w5 ho5 hb5 _ _;have HO5:=d9 ho5;have HB5:=d9 ((uh B4).trans (((Below.refl W.heap.size V4).alloc hs4 _).trans hb5));clear ho5 hb5)
       go_roundw
       case rel=>exact ⟨i + 1,d.length,[] ++ [x],q5,c5,by omega,by omega,rfl,by go_num,by go_num,d9 ((uh HMr).left kh (uh E1).2.2 (uh HXX) (se) (fun z hz=>by simp at hz)),HO5,HB5⟩
       case measure=>simp [intOf];omega
      ·obtain ⟨e,he⟩:∃ e,out.length=e + 1:=⟨out.length - 1,by omega⟩
       obtain ⟨z,hz,_⟩:=je (l:=out) (k:=e) (by omega)
       obtain ⟨g,hqo,hBg,hgw⟩:=(uh HO4).someG (by omega)
       subst hqo
       obtain ⟨gz,oz,hqz,hbz,zc⟩:=mh (uh HO4).ls hz
       cases hqz
       rw [Nat.zero_add] at zc
       have e1:(0:Int)<=(e:Int):=by omega
       have e2:(e:Int) < (e:Int) + 1:=by omega
       have e3:(((e:Int) + 1) == 0)=false:=by rw [beq_eq_false_iff_ne];omega
       have e4:(e:Int)<=8796093022208:=by have:=uh HLO;omega
       have HE0:=d9 he
       have HZ:=d9 (List.mem_of_getElem? hz)
       have HZL:=d9 (sw hz he)
       clear hz
       by_cases hzx:z=x
       ·have hne:(z != x)=false:=by simp [hzx]
        have HMn:Hid (Mg kc a d (i + 1) (d.length) out):=d9 ((uh HMr).leftS (uh HXX) (by rw [<- hzx];exact uh HZ))
        clear hzx
        go_wp2
        go_roundw
        case rel=>exact ⟨i + 1,d.length,out,some ⟨g,0,none⟩,co,by omega,by omega,by rw [uh HE0],by go_num,by go_num,HMn,HO4,B4⟩
        case measure=>simp [intOf];omega
       ·have hne:(z != x)=true:=by simpa using hzx
        have HMn:Hid (Mg kc a d (i + 1) (d.length) (out ++ [x])):=d9 ((uh HMr).left kh (uh E1).2.2 (uh HXX) (se) (fun y hy=>by rw [uh HZL] at hy;cases hy;exact hzx))
        clear hzx
        go_wp2_with (at_builtin;refine jm Kf rfl _ _ rfl W.heap.size (some ⟨g,0,none⟩) co out (some ⟨V4.heap.size,0,none⟩) 1 [x] out.length 1 (out.length + 1) (by rw [uh HE0]) rfl rfl rfl rfl ((uh HO4).below ((Below.refl _ _).alloc (Nat.le_refl _) _)) (ru _ _) (by have:=uh HLO;unfold maxLen;omega) (by have:=uh HLO;omega) (by simp;omega) ?_;intro q5 c5 w5 ho5 hb5 _ _;have HO5:=d9 ho5;have HB5:=d9 ((uh B4).trans (((Below.refl W.heap.size V4).alloc hs4 _).trans hb5));clear ho5 hb5)
        go_roundw
        case rel=>exact ⟨i + 1,d.length,out ++ [x],q5,c5,by omega,by omega,by rw [List.length_append,uh HE0];rfl,by go_num,by go_num,HMn,HO5,HB5⟩
        case measure=>simp [intOf];omega
     ·obtain rfl:i=a.length:=by omega
      have hj1:j < d.length:=by omega
      obtain ⟨t,ht,_⟩:=je hj1
      obtain ⟨bt,ot,hqt,hbt,tc⟩:=mh (uh S2) ht
      subst hqt
      have t0:=tf (uh HB) hbt tc
      have c2:(j:Int) < (d.length:Int):=by omega
      have e0:(0:Int)<=(j:Int):=by omega
      have eb:((j:Int) == (d.length:Int))=false:=by rw [beq_eq_false_iff_ne];omega
      have HTT:=d9 ht
      clear lo ht
      go_wp2
      refine wp_region_quiet_below (by assumption) (by kernel_rfl) ?_
      repeat (go_big_quiet_step (fail))
      refine wpQuiet_nil ?_
      intro _ hw'
      obtain ⟨⟨dq,osq⟩,hw''⟩:=hw'
      subst hw''
      have B4:=d9 (d8 (uh HB) (below_regrown wr dq osq))
      have HO4:=d9 ((uh HO).below (below_regrown wr dq osq))
      generalize grow (redrawn wr dq) osq=V4 at B4 HO4 ⊢
      clear t0
      have t1:=((uh B4).cell (p:=⟨bt,_,none⟩) hbt).trans tc
      have hs4:W.heap.size<=V4.heap.size:=(uh B4).size
      by_cases hout:out.length=0
      ·obtain rfl:out=[]:=List.length_eq_zero_iff.1 hout
       go_wp2_with (at_builtin;refine jm Kf rfl _ _ rfl W.heap.size qo co [] (some ⟨V4.heap.size,0,none⟩) 1 [t] 0 1 (0 + 1) rfl rfl rfl rfl rfl ((uh HO4).below ((Below.refl _ _).alloc (Nat.le_refl _) _)) (ru _ _) (by have:=uh HLO;unfold maxLen;omega) (by have:=uh HLO;omega) (by simp;omega) ?_;intro q5 c5 w5 ho5 hb5 _ _;have HO5:=d9 ho5;have HB5:=d9 ((uh B4).trans (((Below.refl W.heap.size V4).alloc hs4 _).trans hb5));clear ho5 hb5)
       go_roundw
       case rel=>exact ⟨a.length,j + 1,[] ++ [t],q5,c5,by omega,by omega,rfl,by go_num,by go_num,d9 ((uh HMr).right kh (uh E2).2.2 (uh HTT) (se) (fun z hz=>by simp at hz)),HO5,HB5⟩
       case measure=>simp [intOf];omega
      ·obtain ⟨e,he⟩:∃ e,out.length=e + 1:=⟨out.length - 1,by omega⟩
       obtain ⟨z,hz,_⟩:=je (l:=out) (k:=e) (by omega)
       obtain ⟨g,hqo,hBg,hgw⟩:=(uh HO4).someG (by omega)
       subst hqo
       obtain ⟨gz,oz,hqz,hbz,zc⟩:=mh (uh HO4).ls hz
       cases hqz
       rw [Nat.zero_add] at zc
       have e1:(0:Int)<=(e:Int):=by omega
       have e2:(e:Int) < (e:Int) + 1:=by omega
       have e3:(((e:Int) + 1) == 0)=false:=by rw [beq_eq_false_iff_ne];omega
       have e4:(e:Int)<=8796093022208:=by have:=uh HLO;omega
       have HE0:=d9 he
       have HZ:=d9 (List.mem_of_getElem? hz)
       have HZL:=d9 (sw hz he)
       clear hz
       by_cases hzx:z=t
       ·have hne:(z != t)=false:=by simp [hzx]
        have HMn:Hid (Mg kc a d (a.length) (j + 1) out):=d9 ((uh HMr).rightS (uh HTT) (by rw [<- hzx];exact uh HZ))
        clear hzx
        go_wp2
        go_roundw
        case rel=>exact ⟨a.length,j + 1,out,some ⟨g,0,none⟩,co,by omega,by omega,by rw [uh HE0],by go_num,by go_num,HMn,HO4,B4⟩
        case measure=>simp [intOf];omega
       ·have hne:(z != t)=true:=by simpa using hzx
        have HMn:Hid (Mg kc a d (a.length) (j + 1) (out ++ [t])):=d9 ((uh HMr).right kh (uh E2).2.2 (uh HTT) (se) (fun y hy=>by rw [uh HZL] at hy;cases hy;exact hzx))
        clear hzx
        go_wp2_with (at_builtin;refine jm Kf rfl _ _ rfl W.heap.size (some ⟨g,0,none⟩) co out (some ⟨V4.heap.size,0,none⟩) 1 [t] out.length 1 (out.length + 1) (by rw [uh HE0]) rfl rfl rfl rfl ((uh HO4).below ((Below.refl _ _).alloc (Nat.le_refl _) _)) (ru _ _) (by have:=uh HLO;unfold maxLen;omega) (by have:=uh HLO;omega) (by simp;omega) ?_;intro q5 c5 w5 ho5 hb5 _ _;have HO5:=d9 ho5;have HB5:=d9 ((uh B4).trans (((Below.refl W.heap.size V4).alloc hs4 _).trans hb5));clear ho5 hb5)
        go_roundw
        case rel=>exact ⟨a.length,j + 1,out ++ [t],q5,c5,by omega,by omega,by rw [List.length_append,uh HE0];rfl,by go_num,by go_num,HMn,HO5,HB5⟩
        case measure=>simp [intOf];omega
theorem Mn (n:Nat):∀ l:List Int,l.length<=n->l.length * 16<=140737488355328->Ba l:=by
 induction n with
 | zero=>exact fun l h _=>zm l (by omega)
 | succ n ih =>
  intro l h hl
  by_cases h2:l.length < 2
  ·exact zm l h2
  ·refine Kv l (by omega) hl _ _ rfl rfl (ih _ ?_ ?_) (ih _ ?_ ?_)
   ·rw [List.length_take];omega
   ·rw [List.length_take];omega
   ·rw [List.length_drop];omega
   ·rw [List.length_drop];omega
/-- trommelref09.Ints. -/
theorem Mk (l:List Int) (hl:l.length * 16<=140737488355328):Ba l:=Mn l.length l (Nat.le_refl _) hl
end Go.Proofs.YtimklglliffpcaaGreat
namespace Go.Proofs.YtimklglliffpcaaGreat
open Go.RowKit Go.Sort Go.Shelf
def Bj (l:List ByteArray):Prop:=∀ (q:Option Addr) (c:Nat) (w:World),SlOf jy 1 w q c l->Calls Tryz.prog 62 #[.slice q l.length c] w fun e w'=>(∃ L q' c',e=.returned (.slice q' L.length c')/\OwnK jy 9 1 w.heap.size w' q' c' L/\Sm kp L l)/\Below w.heap.size w w'
set_option maxHeartbeats 1000000 in
set_option maxRecDepth 100000 in
theorem ze (l:List ByteArray) (h:l.length < 2):Bj l:=by
 intro q c w hs
 have h2:(l.length:Int) < 2:=by omega
 have hA:=(Below.refl w.heap.size w).alloc (Nat.le_refl _) (.cells #[] 9)
 have HS:=d9 (hs.below hA)
 clear hs
 go_enter Tryz.func62,Tryz.ntmps62
 go_wp2_with (at_builtin;refine jm Ju rfl _ _ rfl w.heap.size (some ⟨w.heap.size,0,none⟩) 0 [] q c l 0 l.length l.length rfl rfl (by omega) rfl rfl (OwnK.made _ _ (Nat.le_refl _)) (uh HS).src (by unfold maxLen;omega) (by omega) (by simp) ?_;intro q3 c3 w3 ho3 hb3 _ _;have HO:=d9 ho3;have HB:=d9 (hA.trans hb3);clear ho3 hb3)
 go_ret
 exact ⟨⟨l,q3,c3,rfl,by simpa using uh HO,Jj kp h⟩,uh HB⟩
set_option maxHeartbeats 8000000 in
set_option maxRecDepth 100000 in
theorem K4 (l:List ByteArray) (h2:2<=l.length) (hl:l.length * 16<=140737488355328) (hf:∀ x ∈ l,x.size<=maxLen) (m n:Nat) (hm:l.length / 2=m) (hn:l.length - m=n) (h1:Bj (l.take m)) (h3:Bj (l.drop m)):Bj l:=by
 intro q c w hs
 have mixed:Tryz.prog.follows .mixedOrders=true:=by kernel_rfl
 have en72:∀ args w,(callFunc 72 args).run Tryz.prog w=.ok (.enter 72 args) w:=enters_of Tryz.func72 (by kernel_rfl) rfl
 have hlc:=hs.2.1
 obtain ⟨b,off,rfl,hbw,_⟩:=hs.2.2.2 (by omega)
 obtain ⟨c2,hc2⟩:∃ c2,c - m=c2:=⟨_,rfl⟩
 have hC1:∀ W,Below w.heap.size w W->Calls Tryz.prog 62 #[.slice (some ⟨b,off,none⟩) m c] W fun e w'=>∃ a q1 c1,e=.returned (.slice q1 a.length c1)/\SlOf jy 1 w' q1 c1 a/\Sm kp a (l.take m)/\Below w.heap.size w w'/\Below W.heap.size W w':=fun W hW=>by
  have:=h1 (some ⟨b,off,none⟩) c W ((Jb (by decide) hs m).below hW)
  rw [List.length_take,Nat.min_eq_left (by omega)] at this
  exact this.mono fun e w' ⟨⟨a,q',c',he,ho,hs⟩,hb⟩=>⟨a,q',c',he,ho.ls,hs,d8 hW hb,hb⟩
 have hC2:∀ W,Below w.heap.size w W->Calls Tryz.prog 62 #[.slice (some ⟨b,off + m,none⟩) n c2] W fun e w'=>∃ a q1 c1,e=.returned (.slice q1 a.length c1)/\SlOf jy 1 w' q1 c1 a/\Sm kp a (l.drop m)/\Below w.heap.size w w'/\Below W.heap.size W w':=fun W hW=>by
  have:=h3 (some ⟨b,off + m * 1,none⟩) (c - m) W ((G5 (by decide) hs m (by omega)).below hW)
  rw [List.length_drop,hn,hc2,Nat.mul_one] at this
  exact this.mono fun e w' ⟨⟨a,q',c',he,ho,hs⟩,hb⟩=>⟨a,q',c',he,ho.ls,hs,d8 hW hb,hb⟩
 have g0:¬ (l.length:Int) < 2:=by omega
 have g1:(l.length:Int) / 2=(m:Int):=by omega
 have g2:(0:Int)<=(m:Int):=by omega
 have g3:(m:Int)<=(c:Int):=by omega
 have g4:(m:Int)<=(l.length:Int):=by omega
 have g5:(l.length:Int)<=(c:Int):=by omega
 have g6:¬ c=m:=by omega
 have g7:(l.length:Int)<=8796093022208:=by omega
 have g8:(l.length:Int).tdiv 2=(m:Int):=by rw [Int.tdiv_eq_ediv_of_nonneg (by omega)];omega
 have g9:=yx m (by omega)
 have HN:=d9 hn
 have HM:=d9 hm
 have HC:=d9 hc2
 clear h1 h3 hs
 go_enter Tryz.func62,Tryz.ntmps62
 go_wp2
 go_cut [3,4] from 15 (fun s3 s4 V=>∃ (a d:List ByteArray) (q1 q2:Option Addr) (c1 c3:Nat),s3=.slice q1 a.length c1/\s4=.slice q2 d.length c3/\SlOf jy 1 V q1 c1 a/\SlOf jy 1 V q2 c3 d/\Hid (Sm kp a (l.take m))/\Hid (Sm kp d (l.drop m))/\Below w.heap.size w V)
 case first =>
  go_region_held3 (fun _=>True) (go_keep) (first
   | (go_at_call 62;(with_reducible refine (hC1 _ (by first | exact uh B2 | exact (Below.refl _ _).drew | exact Below.refl _ _)).mono ?_);rintro e w1 ⟨a,q1,c1,rfl,s1,e1,bw1,bb1⟩;have E1:=d9 e1;have S1:=d9 s1;(first | have S2':=d9 ((uh S2).below bb1) | skip);have B1:=d9 bw1;clear s1 e1 bw1 bb1)
   | (go_at_call 62;(with_reducible refine (hC2 _ (by first | exact uh B1 | exact (Below.refl _ _).drew | exact Below.refl _ _)).mono ?_);rintro e w2 ⟨d,q2,c3,rfl,s2,e2,bw2,bb2⟩;have E2:=d9 e2;have S2:=d9 s2;(first | have S1':=d9 ((uh S1).below bb2) | skip);have B2:=d9 bw2;clear s2 e2 bw2 bb2))
  all_goals
   go_wp2
   go_meet
   first
    | exact ⟨a,d,q1,q2,c1,c3,rfl,rfl,uh S1',uh S2,E1,E2,uh B2⟩
    | exact ⟨a,d,q1,q2,c1,c3,rfl,rfl,uh S1,uh S2',E1,E2,uh B1⟩
 case rest =>
  obtain ⟨a,d,q1,q2,c1,c3,rfl,rfl,s1,s2,E1,E2,bw⟩:=hcut
  obtain ⟨W,rfl⟩:∃ W,W=wc:=⟨_,rfl⟩
  have S1:=d9 s1
  have S2:=d9 s2
  have BW:=d9 bw
  have la:a.length<=m:=by have:=(uh E1).2.1;rw [List.length_take] at this;omega
  have ld:d.length<=n:=by have:=(uh E2).2.1;rw [List.length_drop] at this;omega
  have i9:(a.length:Int)<=8796093022208:=by omega
  have j9:(d.length:Int)<=8796093022208:=by omega
  have ad9:a.length + d.length<=l.length:=by omega
  have fa:∀ x ∈ a,x.size<=maxLen:=fun x hx=>hf x (List.mem_of_mem_take (((uh E1).1 x).1 hx))
  clear hC1 hC2 s1 s2 bw g1 g2 g3 g4 g5 g6 g8 g9 hn hc2 hm
  go_wp2
  go_loopw [5,6,7] (fun ov iv jv wr=>∃ (i j:Nat) (out:List ByteArray) (qo:Option Addr) (co:Nat),i<=a.length/\j<=d.length/\ov=.slice qo out.length co/\iv=.int .i64 i/\jv=.int .i64 j/\Hid (Mg kp a d i j out)/\Hid (OwnK jy 9 1 W.heap.size wr qo co out)/\Hid (Below W.heap.size W wr)) (fun _ iv jv _=>(a.length + d.length) - ((intOf iv).toNat + (intOf jv).toNat))
  case atStart=>exact ⟨0,0,[],none,0,Nat.zero_le _,Nat.zero_le _,rfl,rfl,rfl,d9 (Mg.start _ _ _),d9 (OwnK.nil _ _),d9 (Below.refl _ _)⟩
  case round =>
   obtain ⟨i,j,out,qo,co,hi,hj,rfl,rfl,rfl,HMr,HO,HB⟩:=hrel
   have lo:out.length<=i + j:=(uh HMr).2.1
   have HLO:=d9 lo
   by_cases hdone:i=a.length/\j=d.length
   ·obtain ⟨rfl,rfl⟩:=hdone
    have t1:¬ (a.length:Int) < (a.length:Int):=by omega
    have t2:¬ (d.length:Int) < (d.length:Int):=by omega
    clear lo
    go_wp2
    go_ret
    exact ⟨⟨out,qo,co,rfl,(uh HO).mono (uh BW).size,(uh HMr).done (uh E1) (uh E2) rfl rfl⟩,d8 (uh BW) (uh HB)⟩
   ·by_cases hij:i < a.length/\j < d.length
    ·have hi1:i < a.length:=hij.1
     have hj1:j < d.length:=hij.2
     obtain ⟨x,hx,_⟩:=je hi1
     obtain ⟨bx,ox,hqx,hbx,xc⟩:=j6 (uh S1) hx
     subst hqx
     obtain ⟨t,ht,_⟩:=je hj1
     obtain ⟨bt,ot,hqt,hbt,tc⟩:=j6 (uh S2) ht
     subst hqt
     have fx:=fa x (List.mem_of_getElem? hx)
     have x0:=tf (uh HB) hbx xc
     have t0:=tf (uh HB) hbt tc
     have c1:(i:Int) < (a.length:Int):=by omega
     have c2:(j:Int) < (d.length:Int):=by omega
     have c0:(0:Int)<=(i:Int):=by omega
     have e0:(0:Int)<=(j:Int):=by omega
     have eb:((j:Int) == (d.length:Int))=false:=by rw [beq_eq_false_iff_ne];omega
     have HXX:=d9 hx
     have HTT:=d9 ht
     clear lo hx ht
     by_cases hc:ri x.data.toList t.data.toList<=0
     ·go_wp2
      refine wp_region_quiet_below (by assumption) (by kernel_rfl) ?_
      repeat (go_big_quiet_step (first | (go_at_fn 72;refine Calls.regrown_of (sx _ _ _ fx))))
      refine wpQuiet_nil ?_
      intro _ hw'
      obtain ⟨⟨dq,osq⟩,hw''⟩:=hw'
      subst hw''
      have B4:=d9 (d8 (uh HB) (below_regrown wr dq osq))
      have HO4:=d9 ((uh HO).below (below_regrown wr dq osq))
      generalize grow (redrawn wr dq) osq=V4 at B4 HO4 ⊢
      clear t0
      clear x0
      have x1:=((uh B4).cell (p:=⟨bx,_,none⟩) hbx).trans xc
      have hs4:W.heap.size<=V4.heap.size:=(uh B4).size
      by_cases hout:out.length=0
      ·obtain rfl:out=[]:=List.length_eq_zero_iff.1 hout
       go_wp2_with (at_builtin;refine jm Ju rfl _ _ rfl W.heap.size qo co [] (some ⟨V4.heap.size,0,none⟩) 1 [x] 0 1 (0 + 1) rfl rfl rfl rfl rfl ((uh HO4).below ((Below.refl _ _).alloc (Nat.le_refl _) _)) (ro _ _) (by have:=uh HLO;unfold maxLen;omega) (by have:=uh HLO;omega) (by simp;omega) ?_;intro q5 c5 w5 ho5 hb5 _ _;have HO5:=d9 ho5;have HB5:=d9 ((uh B4).trans (((Below.refl W.heap.size V4).alloc hs4 _).trans hb5));clear ho5 hb5)
       go_roundw
       case rel=>exact ⟨i + 1,j,[] ++ [x],q5,c5,by omega,by omega,rfl,by go_num,by go_num,d9 ((uh HMr).left isCmp_B (uh E1).2.2 (uh HXX) (xy isCmp_B (uh E2).2.2 (uh HTT) hc) (fun z hz=>by simp at hz)),HO5,HB5⟩
       case measure=>simp [intOf];omega
      ·obtain ⟨e,he⟩:∃ e,out.length=e + 1:=⟨out.length - 1,by omega⟩
       obtain ⟨z,hz,_⟩:=je (l:=out) (k:=e) (by omega)
       obtain ⟨g,hqo,hBg,hgw⟩:=(uh HO4).someG (by omega)
       subst hqo
       obtain ⟨gz,oz,hqz,hbz,zc⟩:=j6 (uh HO4).ls hz
       cases hqz
       rw [Nat.zero_add] at zc
       have e1:(0:Int)<=(e:Int):=by omega
       have e2:(e:Int) < (e:Int) + 1:=by omega
       have e3:(((e:Int) + 1) == 0)=false:=by rw [beq_eq_false_iff_ne];omega
       have e4:(e:Int)<=8796093022208:=by have:=uh HLO;omega
       have HE0:=d9 he
       have HZ:=d9 (List.mem_of_getElem? hz)
       have HZL:=d9 (sw hz he)
       clear hz
       by_cases hzx:z=x
       ·have hne:(z.toList == x.toList)=true:=by simp [hzx]
        have HMn:Hid (Mg kp a d (i + 1) (j) out):=d9 ((uh HMr).leftS (uh HXX) (by rw [<- hzx];exact uh HZ))
        clear hzx
        go_wp2
        go_roundw
        case rel=>exact ⟨i + 1,j,out,some ⟨g,0,none⟩,co,by omega,by omega,by rw [uh HE0],by go_num,by go_num,HMn,HO4,B4⟩
        case measure=>simp [intOf];omega
       ·have hne:(z.toList == x.toList)=false:=mg hzx
        have HMn:Hid (Mg kp a d (i + 1) (j) (out ++ [x])):=d9 ((uh HMr).left isCmp_B (uh E1).2.2 (uh HXX) (xy isCmp_B (uh E2).2.2 (uh HTT) hc) (fun y hy=>by rw [uh HZL] at hy;cases hy;exact hzx))
        clear hzx
        go_wp2_with (at_builtin;refine jm Ju rfl _ _ rfl W.heap.size (some ⟨g,0,none⟩) co out (some ⟨V4.heap.size,0,none⟩) 1 [x] out.length 1 (out.length + 1) (by rw [uh HE0]) rfl rfl rfl rfl ((uh HO4).below ((Below.refl _ _).alloc (Nat.le_refl _) _)) (ro _ _) (by have:=uh HLO;unfold maxLen;omega) (by have:=uh HLO;omega) (by simp;omega) ?_;intro q5 c5 w5 ho5 hb5 _ _;have HO5:=d9 ho5;have HB5:=d9 ((uh B4).trans (((Below.refl W.heap.size V4).alloc hs4 _).trans hb5));clear ho5 hb5)
        go_roundw
        case rel=>exact ⟨i + 1,j,out ++ [x],q5,c5,by omega,by omega,by rw [List.length_append,uh HE0];rfl,by go_num,by go_num,HMn,HO5,HB5⟩
        case measure=>simp [intOf];omega
     ·go_wp2
      refine wp_region_quiet_below (by assumption) (by kernel_rfl) ?_
      repeat (go_big_quiet_step (first | (go_at_fn 72;refine Calls.regrown_of (sx _ _ _ fx))))
      refine wpQuiet_nil ?_
      intro _ hw'
      obtain ⟨⟨dq,osq⟩,hw''⟩:=hw'
      subst hw''
      have B4:=d9 (d8 (uh HB) (below_regrown wr dq osq))
      have HO4:=d9 ((uh HO).below (below_regrown wr dq osq))
      generalize grow (redrawn wr dq) osq=V4 at B4 HO4 ⊢
      clear x0
      clear t0
      have t1:=((uh B4).cell (p:=⟨bt,_,none⟩) hbt).trans tc
      have hs4:W.heap.size<=V4.heap.size:=(uh B4).size
      by_cases hout:out.length=0
      ·obtain rfl:out=[]:=List.length_eq_zero_iff.1 hout
       go_wp2_with (at_builtin;refine jm Ju rfl _ _ rfl W.heap.size qo co [] (some ⟨V4.heap.size,0,none⟩) 1 [t] 0 1 (0 + 1) rfl rfl rfl rfl rfl ((uh HO4).below ((Below.refl _ _).alloc (Nat.le_refl _) _)) (ro _ _) (by have:=uh HLO;unfold maxLen;omega) (by have:=uh HLO;omega) (by simp;omega) ?_;intro q5 c5 w5 ho5 hb5 _ _;have HO5:=d9 ho5;have HB5:=d9 ((uh B4).trans (((Below.refl W.heap.size V4).alloc hs4 _).trans hb5));clear ho5 hb5)
       go_roundw
       case rel=>exact ⟨i,j + 1,[] ++ [t],q5,c5,by omega,by omega,rfl,by go_num,by go_num,d9 ((uh HMr).right isCmp_B (uh E2).2.2 (uh HTT) (xy isCmp_B (uh E1).2.2 (uh HXX) (yt isCmp_B (by have h9:0 < kp x t:=hc;omega))) (fun z hz=>by simp at hz)),HO5,HB5⟩
       case measure=>simp [intOf];omega
      ·obtain ⟨e,he⟩:∃ e,out.length=e + 1:=⟨out.length - 1,by omega⟩
       obtain ⟨z,hz,_⟩:=je (l:=out) (k:=e) (by omega)
       obtain ⟨g,hqo,hBg,hgw⟩:=(uh HO4).someG (by omega)
       subst hqo
       obtain ⟨gz,oz,hqz,hbz,zc⟩:=j6 (uh HO4).ls hz
       cases hqz
       rw [Nat.zero_add] at zc
       have e1:(0:Int)<=(e:Int):=by omega
       have e2:(e:Int) < (e:Int) + 1:=by omega
       have e3:(((e:Int) + 1) == 0)=false:=by rw [beq_eq_false_iff_ne];omega
       have e4:(e:Int)<=8796093022208:=by have:=uh HLO;omega
       have HE0:=d9 he
       have HZ:=d9 (List.mem_of_getElem? hz)
       have HZL:=d9 (sw hz he)
       clear hz
       by_cases hzx:z=t
       ·have hne:(z.toList == t.toList)=true:=by simp [hzx]
        have HMn:Hid (Mg kp a d (i) (j + 1) out):=d9 ((uh HMr).rightS (uh HTT) (by rw [<- hzx];exact uh HZ))
        clear hzx
        go_wp2
        go_roundw
        case rel=>exact ⟨i,j + 1,out,some ⟨g,0,none⟩,co,by omega,by omega,by rw [uh HE0],by go_num,by go_num,HMn,HO4,B4⟩
        case measure=>simp [intOf];omega
       ·have hne:(z.toList == t.toList)=false:=mg hzx
        have HMn:Hid (Mg kp a d (i) (j + 1) (out ++ [t])):=d9 ((uh HMr).right isCmp_B (uh E2).2.2 (uh HTT) (xy isCmp_B (uh E1).2.2 (uh HXX) (yt isCmp_B (by have h9:0 < kp x t:=hc;omega))) (fun y hy=>by rw [uh HZL] at hy;cases hy;exact hzx))
        clear hzx
        go_wp2_with (at_builtin;refine jm Ju rfl _ _ rfl W.heap.size (some ⟨g,0,none⟩) co out (some ⟨V4.heap.size,0,none⟩) 1 [t] out.length 1 (out.length + 1) (by rw [uh HE0]) rfl rfl rfl rfl ((uh HO4).below ((Below.refl _ _).alloc (Nat.le_refl _) _)) (ro _ _) (by have:=uh HLO;unfold maxLen;omega) (by have:=uh HLO;omega) (by simp;omega) ?_;intro q5 c5 w5 ho5 hb5 _ _;have HO5:=d9 ho5;have HB5:=d9 ((uh B4).trans (((Below.refl W.heap.size V4).alloc hs4 _).trans hb5));clear ho5 hb5)
        go_roundw
        case rel=>exact ⟨i,j + 1,out ++ [t],q5,c5,by omega,by omega,by rw [List.length_append,uh HE0];rfl,by go_num,by go_num,HMn,HO5,HB5⟩
        case measure=>simp [intOf];omega
    ·by_cases hi1:i < a.length
     ·obtain rfl:j=d.length:=by omega
      obtain ⟨x,hx,_⟩:=je hi1
      obtain ⟨bx,ox,hqx,hbx,xc⟩:=j6 (uh S1) hx
      subst hqx
      have x0:=tf (uh HB) hbx xc
      have c1:(i:Int) < (a.length:Int):=by omega
      have c0:(0:Int)<=(i:Int):=by omega
      have HXX:=d9 hx
      clear lo hx
      go_wp2
      refine wp_region_quiet_below (by assumption) (by kernel_rfl) ?_
      repeat (go_big_quiet_step (fail))
      refine wpQuiet_nil ?_
      intro _ hw'
      obtain ⟨⟨dq,osq⟩,hw''⟩:=hw'
      subst hw''
      have B4:=d9 (d8 (uh HB) (below_regrown wr dq osq))
      have HO4:=d9 ((uh HO).below (below_regrown wr dq osq))
      generalize grow (redrawn wr dq) osq=V4 at B4 HO4 ⊢
      clear x0
      have x1:=((uh B4).cell (p:=⟨bx,_,none⟩) hbx).trans xc
      have hs4:W.heap.size<=V4.heap.size:=(uh B4).size
      by_cases hout:out.length=0
      ·obtain rfl:out=[]:=List.length_eq_zero_iff.1 hout
       go_wp2_with (at_builtin;refine jm Ju rfl _ _ rfl W.heap.size qo co [] (some ⟨V4.heap.size,0,none⟩) 1 [x] 0 1 (0 + 1) rfl rfl rfl rfl rfl ((uh HO4).below ((Below.refl _ _).alloc (Nat.le_refl _) _)) (ro _ _) (by have:=uh HLO;unfold maxLen;omega) (by have:=uh HLO;omega) (by simp;omega) ?_;intro q5 c5 w5 ho5 hb5 _ _;have HO5:=d9 ho5;have HB5:=d9 ((uh B4).trans (((Below.refl W.heap.size V4).alloc hs4 _).trans hb5));clear ho5 hb5)
       go_roundw
       case rel=>exact ⟨i + 1,d.length,[] ++ [x],q5,c5,by omega,by omega,rfl,by go_num,by go_num,d9 ((uh HMr).left isCmp_B (uh E1).2.2 (uh HXX) (se) (fun z hz=>by simp at hz)),HO5,HB5⟩
       case measure=>simp [intOf];omega
      ·obtain ⟨e,he⟩:∃ e,out.length=e + 1:=⟨out.length - 1,by omega⟩
       obtain ⟨z,hz,_⟩:=je (l:=out) (k:=e) (by omega)
       obtain ⟨g,hqo,hBg,hgw⟩:=(uh HO4).someG (by omega)
       subst hqo
       obtain ⟨gz,oz,hqz,hbz,zc⟩:=j6 (uh HO4).ls hz
       cases hqz
       rw [Nat.zero_add] at zc
       have e1:(0:Int)<=(e:Int):=by omega
       have e2:(e:Int) < (e:Int) + 1:=by omega
       have e3:(((e:Int) + 1) == 0)=false:=by rw [beq_eq_false_iff_ne];omega
       have e4:(e:Int)<=8796093022208:=by have:=uh HLO;omega
       have HE0:=d9 he
       have HZ:=d9 (List.mem_of_getElem? hz)
       have HZL:=d9 (sw hz he)
       clear hz
       by_cases hzx:z=x
       ·have hne:(z.toList == x.toList)=true:=by simp [hzx]
        have HMn:Hid (Mg kp a d (i + 1) (d.length) out):=d9 ((uh HMr).leftS (uh HXX) (by rw [<- hzx];exact uh HZ))
        clear hzx
        go_wp2
        go_roundw
        case rel=>exact ⟨i + 1,d.length,out,some ⟨g,0,none⟩,co,by omega,by omega,by rw [uh HE0],by go_num,by go_num,HMn,HO4,B4⟩
        case measure=>simp [intOf];omega
       ·have hne:(z.toList == x.toList)=false:=mg hzx
        have HMn:Hid (Mg kp a d (i + 1) (d.length) (out ++ [x])):=d9 ((uh HMr).left isCmp_B (uh E1).2.2 (uh HXX) (se) (fun y hy=>by rw [uh HZL] at hy;cases hy;exact hzx))
        clear hzx
        go_wp2_with (at_builtin;refine jm Ju rfl _ _ rfl W.heap.size (some ⟨g,0,none⟩) co out (some ⟨V4.heap.size,0,none⟩) 1 [x] out.length 1 (out.length + 1) (by rw [uh HE0]) rfl rfl rfl rfl ((uh HO4).below ((Below.refl _ _).alloc (Nat.le_refl _) _)) (ro _ _) (by have:=uh HLO;unfold maxLen;omega) (by have:=uh HLO;omega) (by simp;omega) ?_;intro q5 c5 w5 ho5 hb5 _ _;have HO5:=d9 ho5;have HB5:=d9 ((uh B4).trans (((Below.refl W.heap.size V4).alloc hs4 _).trans hb5));clear ho5 hb5)
        go_roundw
        case rel=>exact ⟨i + 1,d.length,out ++ [x],q5,c5,by omega,by omega,by rw [List.length_append,uh HE0];rfl,by go_num,by go_num,HMn,HO5,HB5⟩
        case measure=>simp [intOf];omega
     ·obtain rfl:i=a.length:=by omega
      have hj1:j < d.length:=by omega
      obtain ⟨t,ht,_⟩:=je hj1
      obtain ⟨bt,ot,hqt,hbt,tc⟩:=j6 (uh S2) ht
      subst hqt
      have t0:=tf (uh HB) hbt tc
      have c2:(j:Int) < (d.length:Int):=by omega
      have e0:(0:Int)<=(j:Int):=by omega
      have eb:((j:Int) == (d.length:Int))=false:=by rw [beq_eq_false_iff_ne];omega
      have HTT:=d9 ht
      clear lo ht
      go_wp2
      refine wp_region_quiet_below (by assumption) (by kernel_rfl) ?_
      repeat (go_big_quiet_step (fail))
      refine wpQuiet_nil ?_
      intro _ hw'
      obtain ⟨⟨dq,osq⟩,hw''⟩:=hw'
      subst hw''
      have B4:=d9 (d8 (uh HB) (below_regrown wr dq osq))
      have HO4:=d9 ((uh HO).below (below_regrown wr dq osq))
      generalize grow (redrawn wr dq) osq=V4 at B4 HO4 ⊢
      clear t0
      have t1:=((uh B4).cell (p:=⟨bt,_,none⟩) hbt).trans tc
      have hs4:W.heap.size<=V4.heap.size:=(uh B4).size
      by_cases hout:out.length=0
      ·obtain rfl:out=[]:=List.length_eq_zero_iff.1 hout
       go_wp2_with (at_builtin;refine jm Ju rfl _ _ rfl W.heap.size qo co [] (some ⟨V4.heap.size,0,none⟩) 1 [t] 0 1 (0 + 1) rfl rfl rfl rfl rfl ((uh HO4).below ((Below.refl _ _).alloc (Nat.le_refl _) _)) (ro _ _) (by have:=uh HLO;unfold maxLen;omega) (by have:=uh HLO;omega) (by simp;omega) ?_;intro q5 c5 w5 ho5 hb5 _ _;have HO5:=d9 ho5;have HB5:=d9 ((uh B4).trans (((Below.refl W.heap.size V4).alloc hs4 _).trans hb5));clear ho5 hb5)
       go_roundw
       case rel=>exact ⟨a.length,j + 1,[] ++ [t],q5,c5,by omega,by omega,rfl,by go_num,by go_num,d9 ((uh HMr).right isCmp_B (uh E2).2.2 (uh HTT) (se) (fun z hz=>by simp at hz)),HO5,HB5⟩
       case measure=>simp [intOf];omega
      ·obtain ⟨e,he⟩:∃ e,out.length=e + 1:=⟨out.length - 1,by omega⟩
       obtain ⟨z,hz,_⟩:=je (l:=out) (k:=e) (by omega)
       obtain ⟨g,hqo,hBg,hgw⟩:=(uh HO4).someG (by omega)
       subst hqo
       obtain ⟨gz,oz,hqz,hbz,zc⟩:=j6 (uh HO4).ls hz
       cases hqz
       rw [Nat.zero_add] at zc
       have e1:(0:Int)<=(e:Int):=by omega
       have e2:(e:Int) < (e:Int) + 1:=by omega
       have e3:(((e:Int) + 1) == 0)=false:=by rw [beq_eq_false_iff_ne];omega
       have e4:(e:Int)<=8796093022208:=by have:=uh HLO;omega
       have HE0:=d9 he
       have HZ:=d9 (List.mem_of_getElem? hz)
       have HZL:=d9 (sw hz he)
       clear hz
       by_cases hzx:z=t
       ·have hne:(z.toList == t.toList)=true:=by simp [hzx]
        have HMn:Hid (Mg kp a d (a.length) (j + 1) out):=d9 ((uh HMr).rightS (uh HTT) (by rw [<- hzx];exact uh HZ))
        clear hzx
        go_wp2
        go_roundw
        case rel=>exact ⟨a.length,j + 1,out,some ⟨g,0,none⟩,co,by omega,by omega,by rw [uh HE0],by go_num,by go_num,HMn,HO4,B4⟩
        case measure=>simp [intOf];omega
       ·have hne:(z.toList == t.toList)=false:=mg hzx
        have HMn:Hid (Mg kp a d (a.length) (j + 1) (out ++ [t])):=d9 ((uh HMr).right isCmp_B (uh E2).2.2 (uh HTT) (se) (fun y hy=>by rw [uh HZL] at hy;cases hy;exact hzx))
        clear hzx
        go_wp2_with (at_builtin;refine jm Ju rfl _ _ rfl W.heap.size (some ⟨g,0,none⟩) co out (some ⟨V4.heap.size,0,none⟩) 1 [t] out.length 1 (out.length + 1) (by rw [uh HE0]) rfl rfl rfl rfl ((uh HO4).below ((Below.refl _ _).alloc (Nat.le_refl _) _)) (ro _ _) (by have:=uh HLO;unfold maxLen;omega) (by have:=uh HLO;omega) (by simp;omega) ?_;intro q5 c5 w5 ho5 hb5 _ _;have HO5:=d9 ho5;have HB5:=d9 ((uh B4).trans (((Below.refl W.heap.size V4).alloc hs4 _).trans hb5));clear ho5 hb5)
        go_roundw
        case rel=>exact ⟨a.length,j + 1,out ++ [t],q5,c5,by omega,by omega,by rw [List.length_append,uh HE0];rfl,by go_num,by go_num,HMn,HO5,HB5⟩
        case measure=>simp [intOf];omega
theorem N9 (n:Nat):∀ l:List ByteArray,l.length<=n->l.length * 16<=140737488355328->(∀ x ∈ l,x.size<=maxLen)->Bj l:=by
 induction n with
 | zero=>exact fun l h _ _=>ze l (by omega)
 | succ n ih =>
  intro l h hl hf
  by_cases h2:l.length < 2
  ·exact ze l h2
  ·refine K4 l (by omega) hl hf _ _ rfl rfl (ih _ ?_ ?_ ?_) (ih _ ?_ ?_ ?_)
   ·rw [List.length_take];omega
   ·rw [List.length_take];omega
   ·exact fun x hx=>hf x (List.mem_of_mem_take hx)
   ·rw [List.length_drop];omega
   ·rw [List.length_drop];omega
   ·exact fun x hx=>hf x (List.mem_of_mem_drop hx)
/-- trommelref09.Words. -/
theorem H8 (l:List ByteArray) (hl:l.length * 16<=140737488355328) (hf:∀ x ∈ l,x.size<=maxLen):Bj l:=N9 l.length l (Nat.le_refl _) hl hf
end Go.Proofs.YtimklglliffpcaaGreat
namespace Go.Proofs.YtimklglliffpcaaGreat
open Go.RowKit Go.Sort Go.Shelf
theorem qg {w:World} {M:Nat} {a0 a1 a2 a3 a4 a5:Value} {T:TypeId} (h:w.heap[M]? = some (.cells #[a0,a1,a2,a3,a4,a5] T (0,0))):w.cell? ⟨M,0,none⟩=some a0/\w.cell? ⟨M,1,none⟩=some a1/\w.cell? ⟨M,2,none⟩=some a2/\w.cell? ⟨M,3,none⟩=some a3/\w.cell? ⟨M,4,none⟩=some a4/\w.cell? ⟨M,5,none⟩=some a5:=by
 unfold World.cell?
 simp [h]
theorem Nt {V:World} {b:Nat} {c0 c1 c2 c3 c4 c5:Value} (h:V.heap[b]? = some (.cells #[c0,c1,c2,c3,c4,c5] 26 (0,0))) (v:Value):(V.setCell ⟨b,2,none⟩ v).heap[b]? = some (.cells #[c0,c1,v,c3,c4,c5] 26 (0,0)):=by
 simp [World.setCell,Array.getElem?_modify,h]
theorem Nl {V:World} {b:Nat} {c0 c1 c2 c3 c4 c5:Value} (h:V.heap[b]? = some (.cells #[c0,c1,c2,c3,c4,c5] 26 (0,0))) (v:Value):(V.setCell ⟨b,3,none⟩ v).heap[b]? = some (.cells #[c0,c1,c2,v,c4,c5] 26 (0,0)):=by
 simp [World.setCell,Array.getElem?_modify,h]
theorem rr {V:World} {b d:Nat} {o:Option Obj} (h:V.heap[d]? = o) (hne:d ≠ b) (k:Nat) (v:Value):(V.setCell ⟨b,k,none⟩ v).heap[d]? = o:=by
 rw [<- h]
 simp [World.setCell,Array.getElem?_modify,Ne.symm hne]
theorem SlOf.setR {α:Type} [Inhabited α] {enc:α->List Value} {k c:Nat} {w:World} {q:Option Addr} {l:List α} (h:SlOf enc k w q c l) {B b:Nat} (hB:∀ a,q=some a->B<=a.block) (hb:b < B) (o:Nat) (v:Value):SlOf enc k (w.setCell ⟨b,o,Option.none⟩ v) q c l:=by
 refine ⟨h.1,h.2.1,h.2.2.1,fun h0=>?_⟩
 obtain ⟨b',off,hq,hb',hc⟩:=h.2.2.2 h0
 have:=hB _ hq
 refine ⟨b',off,hq,by simpa using hb',fun j u hj=>?_⟩
 rw [World.cell?_setCell_other w ⟨b,o,Option.none⟩ ⟨b',off + j,Option.none⟩ v (by intro g;injection g with g1;simp only at this;omega)]
 exact hc j u hj
set_option maxRecDepth 100000 in
set_option maxHeartbeats 1000000 in
theorem Vj (kind:Int) (attr:ByteArray) (qi:Option Addr) (ci:Nat) (ints:List Int) (qw:Option Addr) (cw:Nat) (words:List ByteArray) (lo hi:Int) (w:World) (h1:SlOf jq 1 w qi ci ints) (h2:SlOf jy 1 w qw cw words) (l1:ints.length<=100000000000000) (l2:words.length<=100000000000000) (hp:kg kind attr ints words lo hi=false) :
  Calls Tryz.prog 17 #[.agg #[.int .i64 kind,.string attr,.slice qi ints.length ci,.slice qw words.length cw,.int .i64 lo,.int .i64 hi]] w fun e w'=>e=.returned (.tuple #[.agg #[.int .i64 0,.string ⟨#[]⟩,.slice none 0 0,.slice none 0 0,.int .i64 0,.int .i64 0],.bool false])/\Below w.heap.size w w':=by
 obtain ⟨X,HX⟩:∃ X,(w.alloc (.cells #[.int .i64 kind,.string attr,.slice qi ints.length ci,.slice qw words.length cw,.int .i64 lo,.int .i64 hi] 26)).alloc (.cells #[.int .i64 0,.string ⟨#[]⟩,.slice none 0 0,.slice none 0 0,.int .i64 0,.int .i64 0] 26)=X:=⟨_,rfl⟩
 have bX:Below w.heap.size w X:=by rw [<- HX];exact ((Below.refl _ _).alloc (Nat.le_refl _) _).alloc (by simp) _
 have x9:X.heap[w.heap.size + 1]? = some (.cells #[.int .i64 0,.string ⟨#[]⟩,.slice none 0 0,.slice none 0 0,.int .i64 0,.int .i64 0] 26 (0,0)):=by
  have:=World.alloc_heap_new (w.alloc (.cells #[.int .i64 kind,.string attr,.slice qi ints.length ci,.slice qw words.length cw,.int .i64 lo,.int .i64 hi] 26)) (.cells #[.int .i64 0,.string ⟨#[]⟩,.slice none 0 0,.slice none 0 0,.int .i64 0,.int .i64 0] 26)
  rw [World.size_alloc] at this
  rw [<- HX];exact this
 have x8:X.heap[w.heap.size]? = some (.cells #[.int .i64 kind,.string attr,.slice qi ints.length ci,.slice qw words.length cw,.int .i64 lo,.int .i64 hi] 26 (0,0)):=by
  rw [<- HX]
  exact (((Below.refl _ _).alloc (Nat.le_refl _) _).block w.heap.size (by simp)).trans (World.alloc_heap_new _ _)
 have hlt:w.heap.size + 1 < X.heap.size:=by rw [<- HX];simp
 have hlt0:w.heap.size < X.heap.size:=by omega
 obtain ⟨x0,x1,x2,x3,x4,x5⟩:=qg x8
 have hP:=mv kind attr qi ci ints qw cw words lo hi X (h1.below bX) (h2.below bX) l1 l2
 rw [hp] at hP
 have H1:=d9 h1
 have H2:=d9 h2
 have X8:=d9 x8
 have X9:=d9 x9
 have BX:=d9 bX
 clear x8 x9 bX h1 h2
 go_enter Tryz.func17,Tryz.ntmps17
 go_wp2_with (go_at_call 51;refine hP.mono ?_;rintro e w1 ⟨rfl,b1⟩;have B1:=d9 b1;(obtain ⟨y0,y1,y2,y3,y4,y5⟩:=qg ((b1.block _ hlt0).trans (uh X8)));have yf:=fun o=>gy (o:=o) ((b1.block _ hlt0).trans (uh X8));have q9:=(b1.block _ hlt).trans (uh X9);(obtain ⟨z0,z1,z2,z3,z4,z5⟩:=qg q9);have zf:=fun o=>gy (o:=o) q9;clear b1 q9)
 exact bodyPost_ret (v:=.tuple #[.agg #[.int .i64 0,.string ⟨#[]⟩,.slice none 0 0,.slice none 0 0,.int .i64 0,.int .i64 0],.bool false]) (by simp [results,Tryz.results17,go_sem, *]) rfl ⟨rfl,(((((((d8 (uh BX) (uh B1)).setCell (p:=⟨w.heap.size + 1,0,none⟩) (Nat.le_succ _) _).setCell (p:=⟨w.heap.size + 1,1,none⟩) (Nat.le_succ _) _).setCell (p:=⟨w.heap.size + 1,2,none⟩) (Nat.le_succ _) _).setCell (p:=⟨w.heap.size + 1,3,none⟩) (Nat.le_succ _) _).setCell (p:=⟨w.heap.size + 1,4,none⟩) (Nat.le_succ _) _).setCell (p:=⟨w.heap.size + 1,5,none⟩) (Nat.le_succ _) _)⟩
set_option maxRecDepth 100000 in
set_option maxHeartbeats 1000000 in
theorem La (attr:ByteArray) (qi:Option Addr) (ci:Nat) (ints:List Int) (qw:Option Addr) (cw:Nat) (words:List ByteArray) (lo hi:Int) (w:World) (h1:SlOf jq 1 w qi ci ints) (h2:SlOf jy 1 w qw cw words) (l1:ints.length<=100000000000000) (l2:words.length<=100000000000000) (hp:kg 3 attr ints words lo hi=true) (hc:hi < lo) :
  Calls Tryz.prog 17 #[.agg #[.int .i64 3,.string attr,.slice qi ints.length ci,.slice qw words.length cw,.int .i64 lo,.int .i64 hi]] w fun e w'=>e=.returned (.tuple #[.agg #[.int .i64 0,.string ⟨#[]⟩,.slice none 0 0,.slice none 0 0,.int .i64 0,.int .i64 0],.bool false])/\Below w.heap.size w w':=by
 obtain ⟨X,HX⟩:∃ X,(w.alloc (.cells #[.int .i64 3,.string attr,.slice qi ints.length ci,.slice qw words.length cw,.int .i64 lo,.int .i64 hi] 26)).alloc (.cells #[.int .i64 0,.string ⟨#[]⟩,.slice none 0 0,.slice none 0 0,.int .i64 0,.int .i64 0] 26)=X:=⟨_,rfl⟩
 have bX:Below w.heap.size w X:=by rw [<- HX];exact ((Below.refl _ _).alloc (Nat.le_refl _) _).alloc (by simp) _
 have x9:X.heap[w.heap.size + 1]? = some (.cells #[.int .i64 0,.string ⟨#[]⟩,.slice none 0 0,.slice none 0 0,.int .i64 0,.int .i64 0] 26 (0,0)):=by
  have:=World.alloc_heap_new (w.alloc (.cells #[.int .i64 3,.string attr,.slice qi ints.length ci,.slice qw words.length cw,.int .i64 lo,.int .i64 hi] 26)) (.cells #[.int .i64 0,.string ⟨#[]⟩,.slice none 0 0,.slice none 0 0,.int .i64 0,.int .i64 0] 26)
  rw [World.size_alloc] at this
  rw [<- HX];exact this
 have x8:X.heap[w.heap.size]? = some (.cells #[.int .i64 3,.string attr,.slice qi ints.length ci,.slice qw words.length cw,.int .i64 lo,.int .i64 hi] 26 (0,0)):=by
  rw [<- HX]
  exact (((Below.refl _ _).alloc (Nat.le_refl _) _).block w.heap.size (by simp)).trans (World.alloc_heap_new _ _)
 have hlt:w.heap.size + 1 < X.heap.size:=by rw [<- HX];simp
 have hlt0:w.heap.size < X.heap.size:=by omega
 obtain ⟨x0,x1,x2,x3,x4,x5⟩:=qg x8
 have hP:=mv 3 attr qi ci ints qw cw words lo hi X (h1.below bX) (h2.below bX) l1 l2
 rw [hp] at hP
 have H1:=d9 h1
 have H2:=d9 h2
 have X8:=d9 x8
 have X9:=d9 x9
 have BX:=d9 bX
 clear x8 x9 bX h1 h2
 go_enter Tryz.func17,Tryz.ntmps17
 go_wp2_with (go_at_call 51;refine hP.mono ?_;rintro e w1 ⟨rfl,b1⟩;have B1:=d9 b1;(obtain ⟨y0,y1,y2,y3,y4,y5⟩:=qg ((b1.block _ hlt0).trans (uh X8)));have yf:=fun o=>gy (o:=o) ((b1.block _ hlt0).trans (uh X8));have q9:=(b1.block _ hlt).trans (uh X9);(obtain ⟨z0,z1,z2,z3,z4,z5⟩:=qg q9);have zf:=fun o=>gy (o:=o) q9;clear b1 q9)
 exact bodyPost_ret (v:=.tuple #[.agg #[.int .i64 0,.string ⟨#[]⟩,.slice none 0 0,.slice none 0 0,.int .i64 0,.int .i64 0],.bool false]) (by simp [results,Tryz.results17,go_sem, *]) rfl ⟨rfl,(((((((d8 (uh BX) (uh B1)).setCell (p:=⟨w.heap.size + 1,0,none⟩) (Nat.le_succ _) _).setCell (p:=⟨w.heap.size + 1,1,none⟩) (Nat.le_succ _) _).setCell (p:=⟨w.heap.size + 1,2,none⟩) (Nat.le_succ _) _).setCell (p:=⟨w.heap.size + 1,3,none⟩) (Nat.le_succ _) _).setCell (p:=⟨w.heap.size + 1,4,none⟩) (Nat.le_succ _) _).setCell (p:=⟨w.heap.size + 1,5,none⟩) (Nat.le_succ _) _)⟩
set_option maxRecDepth 100000 in
set_option maxHeartbeats 1000000 in
theorem Ly (attr:ByteArray) (qi:Option Addr) (ci:Nat) (ints:List Int) (qw:Option Addr) (cw:Nat) (words:List ByteArray) (lo:Int) (w:World) (h1:SlOf jq 1 w qi ci ints) (h2:SlOf jy 1 w qw cw words) (l1:ints.length<=100000000000000) (l2:words.length<=100000000000000) (hp:kg 3 attr ints words lo lo=true) :
  Calls Tryz.prog 17 #[.agg #[.int .i64 3,.string attr,.slice qi ints.length ci,.slice qw words.length cw,.int .i64 lo,.int .i64 lo]] w fun e w'=>(∃ q c,e=.returned (.tuple #[.agg #[.int .i64 1,.string attr,.slice q 1 c,.slice none 0 0,.int .i64 0,.int .i64 0],.bool true])/\SlOf jq 1 w' q c [lo]/\∀ a,q=some a->w.heap.size<=a.block)/\Below w.heap.size w w':=by
 obtain ⟨X,HX⟩:∃ X,(w.alloc (.cells #[.int .i64 3,.string attr,.slice qi ints.length ci,.slice qw words.length cw,.int .i64 lo,.int .i64 lo] 26)).alloc (.cells #[.int .i64 0,.string ⟨#[]⟩,.slice none 0 0,.slice none 0 0,.int .i64 0,.int .i64 0] 26)=X:=⟨_,rfl⟩
 have bX:Below w.heap.size w X:=by rw [<- HX];exact ((Below.refl _ _).alloc (Nat.le_refl _) _).alloc (by simp) _
 have x9:X.heap[w.heap.size + 1]? = some (.cells #[.int .i64 0,.string ⟨#[]⟩,.slice none 0 0,.slice none 0 0,.int .i64 0,.int .i64 0] 26 (0,0)):=by
  have:=World.alloc_heap_new (w.alloc (.cells #[.int .i64 3,.string attr,.slice qi ints.length ci,.slice qw words.length cw,.int .i64 lo,.int .i64 lo] 26)) (.cells #[.int .i64 0,.string ⟨#[]⟩,.slice none 0 0,.slice none 0 0,.int .i64 0,.int .i64 0] 26)
  rw [World.size_alloc] at this
  rw [<- HX];exact this
 have x8:X.heap[w.heap.size]? = some (.cells #[.int .i64 3,.string attr,.slice qi ints.length ci,.slice qw words.length cw,.int .i64 lo,.int .i64 lo] 26 (0,0)):=by
  rw [<- HX]
  exact (((Below.refl _ _).alloc (Nat.le_refl _) _).block w.heap.size (by simp)).trans (World.alloc_heap_new _ _)
 have hlt:w.heap.size + 1 < X.heap.size:=by rw [<- HX];simp
 have hlt0:w.heap.size < X.heap.size:=by omega
 obtain ⟨x0,x1,x2,x3,x4,x5⟩:=qg x8
 have hP:=mv 3 attr qi ci ints qw cw words lo lo X (h1.below bX) (h2.below bX) l1 l2
 rw [hp] at hP
 have H1:=d9 h1
 have H2:=d9 h2
 have X8:=d9 x8
 have X9:=d9 x9
 have BX:=d9 bX
 clear x8 x9 bX h1 h2
 go_enter Tryz.func17,Tryz.ntmps17
 have hll:¬ lo < lo:=by omega
 go_upto_region 4 with (go_at_call 51;refine hP.mono ?_;rintro e w1 ⟨rfl,b1⟩;have B1:=d9 b1;(obtain ⟨y0,y1,y2,y3,y4,y5⟩:=qg ((b1.block _ hlt0).trans (uh X8)));have yf:=fun o=>gy (o:=o) ((b1.block _ hlt0).trans (uh X8));have q9:=(b1.block _ hlt).trans (uh X9);(obtain ⟨z0,z1,z2,z3,z4,z5⟩:=qg q9);have zf:=fun o=>gy (o:=o) q9;clear b1 q9)
 have hsz:w.heap.size + 1 < w1.heap.size:=Nat.lt_of_lt_of_le hlt (uh B1).size
 obtain ⟨Y,HY⟩:∃ Y,w1.alloc (.cells #[.int .i64 lo] 3)=Y:=⟨_,rfl⟩
 have bY:Below w1.heap.size w1 Y:=by rw [<- HY];exact (Below.refl _ _).alloc (Nat.le_refl _) _
 have S0:SlOf jq 1 Y (some ⟨w1.heap.size,0,none⟩) 1 [lo]:=by
  rw [<- HY]
  refine ⟨(fun h=>by cases h),Nat.le_refl _,(by decide),fun _=>⟨w1.heap.size,0,rfl,(by simp),fun j u hj=>?_⟩⟩
  rw [vl] at hj
  have:=zj (World.alloc_heap_new w1 (.cells #[.int .i64 lo] 3)) j u hj
  rwa [nz] at this
 have q9:=(bY.block _ hsz).trans (((uh B1).block _ hlt).trans (uh X9))
 obtain ⟨a0,a1,a2,a3,a4,a5⟩:=qg q9
 have af:=fun o=>gy (o:=o) q9
 have BY:=d9 (d8 (d8 (uh BX) (uh B1)) bY)
 have T0:=d9 S0
 have hge:Hid (∀ a,(some (⟨w1.heap.size,0,none⟩:Addr))=some a->w1.heap.size<=a.block):=d9 fun a e=>by cases e;exact Nat.le_refl _
 clear S0 bY q9 z0 z1 z2 z3 z4 z5 zf
 go_wp2
 exact bodyPost_ret (v:=.tuple #[.agg #[.int .i64 1,.string attr,.slice (some ⟨w1.heap.size,0,none⟩) 1 1,.slice none 0 0,.int .i64 0,.int .i64 0],.bool true]) (by simp [results,Tryz.results17,go_sem, *]) rfl ⟨⟨_,_,rfl,(((((((uh T0).setR (uh hge) hsz 0 _).setR (uh hge) hsz 1 _).setR (uh hge) hsz 2 _).setR (uh hge) hsz 3 _).setR (uh hge) hsz 4 _).setR (uh hge) hsz 5 _),fun a e=>Nat.le_trans (by omega) (uh hge a e)⟩,(((((((uh BY).setCell (p:=⟨w.heap.size + 1,0,none⟩) (Nat.le_succ _) _).setCell (p:=⟨w.heap.size + 1,1,none⟩) (Nat.le_succ _) _).setCell (p:=⟨w.heap.size + 1,2,none⟩) (Nat.le_succ _) _).setCell (p:=⟨w.heap.size + 1,3,none⟩) (Nat.le_succ _) _).setCell (p:=⟨w.heap.size + 1,4,none⟩) (Nat.le_succ _) _).setCell (p:=⟨w.heap.size + 1,5,none⟩) (Nat.le_succ _) _)⟩
set_option maxRecDepth 100000 in
set_option maxHeartbeats 2000000 in
theorem Fi (attr:ByteArray) (qi:Option Addr) (ci:Nat) (ints:List Int) (qw:Option Addr) (cw:Nat) (words:List ByteArray) (lo hi:Int) (w:World) (h1:SlOf jq 1 w qi ci ints) (h2:SlOf jy 1 w qw cw words) (l1:ints.length<=100000000000000) (l2:words.length<=100000000000000) (hp:kg 3 attr ints words lo hi=true) (hc:lo < hi) (hf:∀ x ∈ words,x.size<=maxLen) (l3:ints.length * 16<=140737488355328) (l4:words.length * 16<=140737488355328) :
  Calls Tryz.prog 17 #[.agg #[.int .i64 3,.string attr,.slice qi ints.length ci,.slice qw words.length cw,.int .i64 lo,.int .i64 hi]] w fun e w'=>(∃ (L1:List Int) (L2:List ByteArray) (q1:Option Addr) (c1:Nat) (q2:Option Addr) (c2:Nat),e=.returned (.tuple #[.agg #[.int .i64 3,.string attr,.slice q1 L1.length c1,.slice q2 L2.length c2,.int .i64 lo,.int .i64 hi],.bool true])/\SlOf jq 1 w' q1 c1 L1/\SlOf jy 1 w' q2 c2 L2/\Sm kc L1 ints/\Sm kp L2 words/\(∀ a,q1=some a->w.heap.size<=a.block)/\∀ a,q2=some a->w.heap.size<=a.block)/\Below w.heap.size w w':=by
 have hI:=fun (W:World) (hW:Below w.heap.size w W)=>Mk ints l3 qi ci W (h1.below hW)
 have hS:=fun (W:World) (hW:Below w.heap.size w W)=>H8 words l4 hf qw cw W (h2.below hW)
 obtain ⟨X,HX⟩:∃ X,(w.alloc (.cells #[.int .i64 3,.string attr,.slice qi ints.length ci,.slice qw words.length cw,.int .i64 lo,.int .i64 hi] 26)).alloc (.cells #[.int .i64 0,.string ⟨#[]⟩,.slice none 0 0,.slice none 0 0,.int .i64 0,.int .i64 0] 26)=X:=⟨_,rfl⟩
 have bX:Below w.heap.size w X:=by rw [<- HX];exact ((Below.refl _ _).alloc (Nat.le_refl _) _).alloc (by simp) _
 have x9:X.heap[w.heap.size + 1]? = some (.cells #[.int .i64 0,.string ⟨#[]⟩,.slice none 0 0,.slice none 0 0,.int .i64 0,.int .i64 0] 26 (0,0)):=by
  have:=World.alloc_heap_new (w.alloc (.cells #[.int .i64 3,.string attr,.slice qi ints.length ci,.slice qw words.length cw,.int .i64 lo,.int .i64 hi] 26)) (.cells #[.int .i64 0,.string ⟨#[]⟩,.slice none 0 0,.slice none 0 0,.int .i64 0,.int .i64 0] 26)
  rw [World.size_alloc] at this
  rw [<- HX];exact this
 have x8:X.heap[w.heap.size]? = some (.cells #[.int .i64 3,.string attr,.slice qi ints.length ci,.slice qw words.length cw,.int .i64 lo,.int .i64 hi] 26 (0,0)):=by
  rw [<- HX]
  exact (((Below.refl _ _).alloc (Nat.le_refl _) _).block w.heap.size (by simp)).trans (World.alloc_heap_new _ _)
 have hlt:w.heap.size + 1 < X.heap.size:=by rw [<- HX];simp
 have hlt0:w.heap.size < X.heap.size:=by omega
 obtain ⟨x0,x1,x2,x3,x4,x5⟩:=qg x8
 have hP:=mv 3 attr qi ci ints qw cw words lo hi X (h1.below bX) (h2.below bX) l1 l2
 rw [hp] at hP
 have H1:=d9 h1
 have H2:=d9 h2
 have X8:=d9 x8
 have X9:=d9 x9
 have BX:=d9 bX
 clear x8 x9 bX h1 h2
 go_enter Tryz.func17,Tryz.ntmps17
 have g1:¬ hi < lo:=by omega
 have g2:(lo == hi)=false:=by rw [beq_eq_false_iff_ne];omega
 go_upto_region 6 with (first
  | (go_at_call 51;refine hP.mono ?_;rintro e w1 ⟨rfl,b1⟩;have B1:=d9 b1;(obtain ⟨y0,y1,y2,y3,y4,y5⟩:=qg ((b1.block _ hlt0).trans (uh X8)));have yf:=fun o=>gy (o:=o) ((b1.block _ hlt0).trans (uh X8));have q9:=(b1.block _ hlt).trans (uh X9);(obtain ⟨z0,z1,z2,z3,z4,z5⟩:=qg q9);have zf:=fun o=>gy (o:=o) q9;clear b1 q9)
  | (go_at_call 61;refine (hI _ (d8 (uh BX) (uh B1))).mono ?_;rintro e w2 ⟨⟨L1,q1,c1,rfl,o1,m1⟩,b2⟩;have S1:=d9 o1.ls;have F1:=d9 o1.from;have M1:=d9 m1;have B2:=d9 (d8 (uh B1) b2);have BZ:=d9 b2.size;clear o1 m1 b2 y0 y1 y2 y3 y4 y5 yf z0 z1 z2 z3 z4 z5 zf;have q8:=((uh B2).block _ hlt0).trans (uh X8);(obtain ⟨y0,y1,y2,y3,y4,y5⟩:=qg q8);have yf:=fun o=>gy (o:=o) q8;(obtain ⟨V2,HV2⟩:∃ V2,w2.setCell ⟨w.heap.size,2,none⟩ (.slice q1 L1.length c1)=V2:=⟨_,rfl⟩);have K2:=d9 (show V2.heap[w.heap.size]? = some (.cells #[.int .i64 3,.string attr,.slice q1 L1.length c1,.slice qw words.length cw,.int .i64 lo,.int .i64 hi] 26 (0,0)) from HV2 ▸ Nt q8 _);have K9:=d9 (show V2.heap[w.heap.size + 1]? = some (.cells #[.int .i64 0,.string ⟨#[]⟩,.slice none 0 0,.slice none 0 0,.int .i64 0,.int .i64 0] 26 (0,0)) from HV2 ▸ rr (((uh B2).block _ hlt).trans (uh X9)) (by omega) _ _);have BV2:=d9 (show Below w.heap.size w V2 from HV2 ▸ (d8 (uh BX) (uh B2)).setCell (Nat.le_refl _) _);have SV:=d9 (show V2.heap.size=w2.heap.size from HV2 ▸ World.size_setCell _ _ _);clear q8;(obtain ⟨u0,u1,u2,u3,u4,u5⟩:=qg (uh K2));have uf:=fun o=>gy (o:=o) (uh K2)))
 have hv0:w.heap.size < V2.heap.size:=(Array.getElem?_eq_some_iff.1 (uh K2)).1
 go_upto_region 7 with (go_at_call 62;refine (hS _ (uh BV2)).mono ?_;rintro e w3 ⟨⟨L2,q2,c2,rfl,o2,m2⟩,b3⟩;have S2:=d9 o2.ls;have F2:=d9 o2.from;have M2:=d9 m2;have B3:=d9 b3;have S1':=d9 (((uh S1).setR (uh F1) (by have:=(uh B1).size;omega) 2 _).below (HV2.symm ▸ b3));clear o2 m2 b3 y0 y1 y2 y3 y4 y5 yf;have q8:=((uh B3).block _ hv0).trans (uh K2);(obtain ⟨y0,y1,y2,y3,y4,y5⟩:=qg q8);have yf:=fun o=>gy (o:=o) q8;skip)
 obtain ⟨V3,HV3⟩:∃ V3,w3.setCell ⟨w.heap.size,3,none⟩ (.slice q2 L2.length c2)=V3:=⟨_,rfl⟩
 have q8:=((uh B3).block _ hv0).trans (uh K2)
 have q9:=((uh B3).block (w.heap.size + 1) (Array.getElem?_eq_some_iff.1 (uh K9)).1).trans (uh K9)
 have k3:V3.heap[w.heap.size]? = some (.cells #[.int .i64 3,.string attr,.slice q1 L1.length c1,.slice q2 L2.length c2,.int .i64 lo,.int .i64 hi] 26 (0,0)):=HV3 ▸ Nl q8 _
 have k9:V3.heap[w.heap.size + 1]? = some (.cells #[.int .i64 0,.string ⟨#[]⟩,.slice none 0 0,.slice none 0 0,.int .i64 0,.int .i64 0] 26 (0,0)):=HV3 ▸ rr q9 (by omega) _ _
 have bV3:Below w.heap.size w V3:=HV3 ▸ (d8 (uh BV2) (uh B3)).setCell (Nat.le_refl _) _
 have sz1:w.heap.size + 1 < w1.heap.size:=Nat.lt_of_lt_of_le hlt (uh B1).size
 have sz2:w.heap.size + 1 < V2.heap.size:=(Array.getElem?_eq_some_iff.1 (uh K9)).1
 have s1:SlOf jq 1 V3 q1 c1 L1:=HV3 ▸ (uh S1').setR (uh F1) (by omega) 3 _
 have s2:SlOf jy 1 V3 q2 c2 L2:=HV3 ▸ (uh S2).setR (uh F2) (by omega) 3 _
 obtain ⟨a0,a1,a2,a3,a4,a5⟩:=qg k3
 obtain ⟨z0,z1,z2,z3,z4,z5⟩:=qg k9
 have zf:=fun o=>gy (o:=o) k9
 have T1:=d9 s1
 have T2:=d9 s2
 have BV3:=d9 bV3
 clear q8 q9 k3 k9 bV3 s1 s2 y0 y1 y2 y3 y4 y5 yf u0 u1 u2 u3 u4 u5 uf HV2
 go_wp2
 exact bodyPost_ret (v:=.tuple #[.agg #[.int .i64 3,.string attr,.slice q1 L1.length c1,.slice q2 L2.length c2,.int .i64 lo,.int .i64 hi],.bool true]) (by simp [results,Tryz.results17,go_sem, *]) rfl ⟨⟨L1,L2,q1,c1,q2,c2,rfl,((((((uh T1).setR (uh F1) sz1 0 _).setR (uh F1) sz1 1 _).setR (uh F1) sz1 2 _).setR (uh F1) sz1 3 _).setR (uh F1) sz1 4 _).setR (uh F1) sz1 5 _,((((((uh T2).setR (uh F2) sz2 0 _).setR (uh F2) sz2 1 _).setR (uh F2) sz2 2 _).setR (uh F2) sz2 3 _).setR (uh F2) sz2 4 _).setR (uh F2) sz2 5 _,uh M1,uh M2,(fun a e=>Nat.le_trans (by omega) (uh F1 a e)),fun a e=>Nat.le_trans (by omega) (uh F2 a e)⟩,(((((((uh BV3).setCell (p:=⟨w.heap.size + 1,0,none⟩) (Nat.le_succ _) _).setCell (p:=⟨w.heap.size + 1,1,none⟩) (Nat.le_succ _) _).setCell (p:=⟨w.heap.size + 1,2,none⟩) (Nat.le_succ _) _).setCell (p:=⟨w.heap.size + 1,3,none⟩) (Nat.le_succ _) _).setCell (p:=⟨w.heap.size + 1,4,none⟩) (Nat.le_succ _) _).setCell (p:=⟨w.heap.size + 1,5,none⟩) (Nat.le_succ _) _)⟩
set_option maxRecDepth 100000 in
set_option maxHeartbeats 2000000 in
theorem M8 (kind:Int) (attr:ByteArray) (qi:Option Addr) (ci:Nat) (ints:List Int) (qw:Option Addr) (cw:Nat) (words:List ByteArray) (lo hi:Int) (w:World) (h1:SlOf jq 1 w qi ci ints) (h2:SlOf jy 1 w qw cw words) (l1:ints.length<=100000000000000) (l2:words.length<=100000000000000) (hp:kg kind attr ints words lo hi=true) (hc:kind ≠ 3) (hf:∀ x ∈ words,x.size<=maxLen) (l3:ints.length * 16<=140737488355328) (l4:words.length * 16<=140737488355328) :
  Calls Tryz.prog 17 #[.agg #[.int .i64 kind,.string attr,.slice qi ints.length ci,.slice qw words.length cw,.int .i64 lo,.int .i64 hi]] w fun e w'=>(∃ (L1:List Int) (L2:List ByteArray) (q1:Option Addr) (c1:Nat) (q2:Option Addr) (c2:Nat),e=.returned (.tuple #[.agg #[.int .i64 kind,.string attr,.slice q1 L1.length c1,.slice q2 L2.length c2,.int .i64 lo,.int .i64 hi],.bool true])/\SlOf jq 1 w' q1 c1 L1/\SlOf jy 1 w' q2 c2 L2/\Sm kc L1 ints/\Sm kp L2 words/\(∀ a,q1=some a->w.heap.size<=a.block)/\∀ a,q2=some a->w.heap.size<=a.block)/\Below w.heap.size w w':=by
 have hI:=fun (W:World) (hW:Below w.heap.size w W)=>Mk ints l3 qi ci W (h1.below hW)
 have hS:=fun (W:World) (hW:Below w.heap.size w W)=>H8 words l4 hf qw cw W (h2.below hW)
 obtain ⟨X,HX⟩:∃ X,(w.alloc (.cells #[.int .i64 kind,.string attr,.slice qi ints.length ci,.slice qw words.length cw,.int .i64 lo,.int .i64 hi] 26)).alloc (.cells #[.int .i64 0,.string ⟨#[]⟩,.slice none 0 0,.slice none 0 0,.int .i64 0,.int .i64 0] 26)=X:=⟨_,rfl⟩
 have bX:Below w.heap.size w X:=by rw [<- HX];exact ((Below.refl _ _).alloc (Nat.le_refl _) _).alloc (by simp) _
 have x9:X.heap[w.heap.size + 1]? = some (.cells #[.int .i64 0,.string ⟨#[]⟩,.slice none 0 0,.slice none 0 0,.int .i64 0,.int .i64 0] 26 (0,0)):=by
  have:=World.alloc_heap_new (w.alloc (.cells #[.int .i64 kind,.string attr,.slice qi ints.length ci,.slice qw words.length cw,.int .i64 lo,.int .i64 hi] 26)) (.cells #[.int .i64 0,.string ⟨#[]⟩,.slice none 0 0,.slice none 0 0,.int .i64 0,.int .i64 0] 26)
  rw [World.size_alloc] at this
  rw [<- HX];exact this
 have x8:X.heap[w.heap.size]? = some (.cells #[.int .i64 kind,.string attr,.slice qi ints.length ci,.slice qw words.length cw,.int .i64 lo,.int .i64 hi] 26 (0,0)):=by
  rw [<- HX]
  exact (((Below.refl _ _).alloc (Nat.le_refl _) _).block w.heap.size (by simp)).trans (World.alloc_heap_new _ _)
 have hlt:w.heap.size + 1 < X.heap.size:=by rw [<- HX];simp
 have hlt0:w.heap.size < X.heap.size:=by omega
 obtain ⟨x0,x1,x2,x3,x4,x5⟩:=qg x8
 have hP:=mv kind attr qi ci ints qw cw words lo hi X (h1.below bX) (h2.below bX) l1 l2
 rw [hp] at hP
 have H1:=d9 h1
 have H2:=d9 h2
 have X8:=d9 x8
 have X9:=d9 x9
 have BX:=d9 bX
 clear x8 x9 bX h1 h2
 go_enter Tryz.func17,Tryz.ntmps17
 have g1:(kind == 3)=false:=by simpa using hc
 go_upto_region 6 with (first
  | (go_at_call 51;refine hP.mono ?_;rintro e w1 ⟨rfl,b1⟩;have B1:=d9 b1;(obtain ⟨y0,y1,y2,y3,y4,y5⟩:=qg ((b1.block _ hlt0).trans (uh X8)));have yf:=fun o=>gy (o:=o) ((b1.block _ hlt0).trans (uh X8));have q9:=(b1.block _ hlt).trans (uh X9);(obtain ⟨z0,z1,z2,z3,z4,z5⟩:=qg q9);have zf:=fun o=>gy (o:=o) q9;clear b1 q9)
  | (go_at_call 61;refine (hI _ (d8 (uh BX) (uh B1))).mono ?_;rintro e w2 ⟨⟨L1,q1,c1,rfl,o1,m1⟩,b2⟩;have S1:=d9 o1.ls;have F1:=d9 o1.from;have M1:=d9 m1;have B2:=d9 (d8 (uh B1) b2);have BZ:=d9 b2.size;clear o1 m1 b2 y0 y1 y2 y3 y4 y5 yf z0 z1 z2 z3 z4 z5 zf;have q8:=((uh B2).block _ hlt0).trans (uh X8);(obtain ⟨y0,y1,y2,y3,y4,y5⟩:=qg q8);have yf:=fun o=>gy (o:=o) q8;(obtain ⟨V2,HV2⟩:∃ V2,w2.setCell ⟨w.heap.size,2,none⟩ (.slice q1 L1.length c1)=V2:=⟨_,rfl⟩);have K2:=d9 (show V2.heap[w.heap.size]? = some (.cells #[.int .i64 kind,.string attr,.slice q1 L1.length c1,.slice qw words.length cw,.int .i64 lo,.int .i64 hi] 26 (0,0)) from HV2 ▸ Nt q8 _);have K9:=d9 (show V2.heap[w.heap.size + 1]? = some (.cells #[.int .i64 0,.string ⟨#[]⟩,.slice none 0 0,.slice none 0 0,.int .i64 0,.int .i64 0] 26 (0,0)) from HV2 ▸ rr (((uh B2).block _ hlt).trans (uh X9)) (by omega) _ _);have BV2:=d9 (show Below w.heap.size w V2 from HV2 ▸ (d8 (uh BX) (uh B2)).setCell (Nat.le_refl _) _);have SV:=d9 (show V2.heap.size=w2.heap.size from HV2 ▸ World.size_setCell _ _ _);clear q8;(obtain ⟨u0,u1,u2,u3,u4,u5⟩:=qg (uh K2));have uf:=fun o=>gy (o:=o) (uh K2)))
 have hv0:w.heap.size < V2.heap.size:=(Array.getElem?_eq_some_iff.1 (uh K2)).1
 go_upto_region 7 with (go_at_call 62;refine (hS _ (uh BV2)).mono ?_;rintro e w3 ⟨⟨L2,q2,c2,rfl,o2,m2⟩,b3⟩;have S2:=d9 o2.ls;have F2:=d9 o2.from;have M2:=d9 m2;have B3:=d9 b3;have S1':=d9 (((uh S1).setR (uh F1) (by have:=(uh B1).size;omega) 2 _).below (HV2.symm ▸ b3));clear o2 m2 b3 y0 y1 y2 y3 y4 y5 yf;have q8:=((uh B3).block _ hv0).trans (uh K2);(obtain ⟨y0,y1,y2,y3,y4,y5⟩:=qg q8);have yf:=fun o=>gy (o:=o) q8;skip)
 obtain ⟨V3,HV3⟩:∃ V3,w3.setCell ⟨w.heap.size,3,none⟩ (.slice q2 L2.length c2)=V3:=⟨_,rfl⟩
 have q8:=((uh B3).block _ hv0).trans (uh K2)
 have q9:=((uh B3).block (w.heap.size + 1) (Array.getElem?_eq_some_iff.1 (uh K9)).1).trans (uh K9)
 have k3:V3.heap[w.heap.size]? = some (.cells #[.int .i64 kind,.string attr,.slice q1 L1.length c1,.slice q2 L2.length c2,.int .i64 lo,.int .i64 hi] 26 (0,0)):=HV3 ▸ Nl q8 _
 have k9:V3.heap[w.heap.size + 1]? = some (.cells #[.int .i64 0,.string ⟨#[]⟩,.slice none 0 0,.slice none 0 0,.int .i64 0,.int .i64 0] 26 (0,0)):=HV3 ▸ rr q9 (by omega) _ _
 have bV3:Below w.heap.size w V3:=HV3 ▸ (d8 (uh BV2) (uh B3)).setCell (Nat.le_refl _) _
 have sz1:w.heap.size + 1 < w1.heap.size:=Nat.lt_of_lt_of_le hlt (uh B1).size
 have sz2:w.heap.size + 1 < V2.heap.size:=(Array.getElem?_eq_some_iff.1 (uh K9)).1
 have s1:SlOf jq 1 V3 q1 c1 L1:=HV3 ▸ (uh S1').setR (uh F1) (by omega) 3 _
 have s2:SlOf jy 1 V3 q2 c2 L2:=HV3 ▸ (uh S2).setR (uh F2) (by omega) 3 _
 obtain ⟨a0,a1,a2,a3,a4,a5⟩:=qg k3
 obtain ⟨z0,z1,z2,z3,z4,z5⟩:=qg k9
 have zf:=fun o=>gy (o:=o) k9
 have T1:=d9 s1
 have T2:=d9 s2
 have BV3:=d9 bV3
 clear q8 q9 k3 k9 bV3 s1 s2 y0 y1 y2 y3 y4 y5 yf u0 u1 u2 u3 u4 u5 uf HV2
 go_wp2
 exact bodyPost_ret (v:=.tuple #[.agg #[.int .i64 kind,.string attr,.slice q1 L1.length c1,.slice q2 L2.length c2,.int .i64 lo,.int .i64 hi],.bool true]) (by simp [results,Tryz.results17,go_sem, *]) rfl ⟨⟨L1,L2,q1,c1,q2,c2,rfl,((((((uh T1).setR (uh F1) sz1 0 _).setR (uh F1) sz1 1 _).setR (uh F1) sz1 2 _).setR (uh F1) sz1 3 _).setR (uh F1) sz1 4 _).setR (uh F1) sz1 5 _,((((((uh T2).setR (uh F2) sz2 0 _).setR (uh F2) sz2 1 _).setR (uh F2) sz2 2 _).setR (uh F2) sz2 3 _).setR (uh F2) sz2 4 _).setR (uh F2) sz2 5 _,uh M1,uh M2,(fun a e=>Nat.le_trans (by omega) (uh F1 a e)),fun a e=>Nat.le_trans (by omega) (uh F2 a e)⟩,(((((((uh BV3).setCell (p:=⟨w.heap.size + 1,0,none⟩) (Nat.le_succ _) _).setCell (p:=⟨w.heap.size + 1,1,none⟩) (Nat.le_succ _) _).setCell (p:=⟨w.heap.size + 1,2,none⟩) (Nat.le_succ _) _).setCell (p:=⟨w.heap.size + 1,3,none⟩) (Nat.le_succ _) _).setCell (p:=⟨w.heap.size + 1,4,none⟩) (Nat.le_succ _) _).setCell (p:=⟨w.heap.size + 1,5,none⟩) (Nat.le_succ _) _)⟩
theorem Rp {p:Pd} (h:p.ok=true):(∀ x ∈ p.words,x.size<=maxLen)/\p.ints.length * 16<=140737488355328/\p.words.length * 16<=140737488355328:=by
 have hw:∀ {m:Int},p9 jp p.words m=true->∀ x ∈ p.words,x.size<=maxLen:=fun {m} h x hx=>by
  simp only [p9,Bool.and_eq_true] at h
  have:=List.all_eq_true.1 h.1 x hx
  unfold jp at this
  have:=of_decide_eq_true this
  unfold maxLen
  omega
 rcases (j5 h).2 with ⟨_,h1,h2,_⟩ | ⟨_,h1,h2,_⟩ | ⟨_,_,_,h1,h2⟩ | ⟨_,h1,h2,_⟩
 ·have:=pm h1
  rw [h2]
  exact ⟨fun x hx=>by simp at hx,by omega,by simp⟩
 ·have:=pm h1
  rw [h2]
  exact ⟨hw h1,by simp,by omega⟩
 ·rw [h1,h2]
  exact ⟨fun x hx=>by simp at hx,by simp,by simp⟩
 ·have:=pm h1
  rw [h2]
  exact ⟨hw h1,by simp,by omega⟩
/-- trommelref09.Normal answers as conj.Normal does. -/
theorem rl (u:Pv) (p:Pd) (w:World) (hu:PdIn w u p) (hs:p.small) :
    Calls Tryz.prog 17 #[.agg #[.int .i64 u.kind,.string u.attr,.slice u.qi u.ni u.ci,.slice u.qw u.nw u.cw,.int .i64 u.lo,.int .i64 u.hi]] w fun e w'=>(∃ v:Pv,e=.returned (.tuple #[.agg #[.int .i64 v.kind,.string v.attr,.slice v.qi v.ni v.ci,.slice v.qw v.nw v.cw,.int .i64 v.lo,.int .i64 v.hi],.bool (jr p).isSome])/\PdFrom w' w.heap.size v ((jr p).getD pr))/\Below w.heap.size w w':=by
  obtain ⟨h1,h2,h3,h4,h5,h6,h7,h8⟩:=hu
  rw [h1,h2,h3,h4,h5,h6]
  cases hok:p.ok with
  | false =>
    rw [mw hok]
    refine (Vj p.kind p.attr u.qi u.ci p.ints u.qw u.cw p.words p.lo p.hi w h7 h8 hs.1 hs.2 hok).mono fun e w' ⟨he,hb⟩=>⟨⟨pc,he,pn w',fun a e=>by (cases e),fun a e=>by cases e⟩,hb⟩
  | true =>
    obtain ⟨q1,q2,q3⟩:=Rp hok
    by_cases hk:p.kind=3
    · have hp:kg 3 p.attr p.ints p.words p.lo p.hi=true:=by rw [<- hk];exact hok
      rw [qv hok hk]
      rw [hk]
      by_cases hc:p.hi < p.lo
      · rw [if_pos hc]
        exact (La p.attr u.qi u.ci p.ints u.qw u.cw p.words p.lo p.hi w h7 h8 hs.1 hs.2 hp hc).mono fun e w' ⟨he,hb⟩=>⟨⟨pc,he,pn w',fun a e=>by (cases e),fun a e=>by cases e⟩,hb⟩
      · rw [if_neg hc]
        by_cases he:p.lo=p.hi
        · rw [if_pos he,<- he]
          rw [<- he] at hp
          exact (Ly p.attr u.qi u.ci p.ints u.qw u.cw p.words p.lo w h7 h8 hs.1 hs.2 hp).mono fun e w' ⟨⟨q,c,e1,e2,e3⟩,hb⟩=>⟨⟨⟨1,p.attr,q,1,c,none,0,0,0,0⟩,e1,⟨rfl,rfl,rfl,rfl,rfl,rfl,e2,SlOf.none _⟩,e3,fun a e=>by cases e⟩,hb⟩
        · rw [if_neg he]
          refine (Fi p.attr u.qi u.ci p.ints u.qw u.cw p.words p.lo p.hi w h7 h8 hs.1 hs.2 hp (by omega) q1 q2 q3).mono fun e w' ⟨⟨L1,L2,r1,c1,r2,c2,e1,e2,e3,e4,e5,e6,e7⟩,hb⟩=>?_
          have hI:p.ints=[]/\p.words=[]:=by
            rcases (j5 hok).2 with ⟨k,_⟩ | ⟨k,_⟩ | ⟨_,_,_,g1,g2⟩ | ⟨k,_⟩
            · omega
            · omega
            · exact ⟨g1,g2⟩
            · omega
          have l1:L1=[]:=List.length_eq_zero_iff.1 (by have:=e4.2.1;rw [hI.1] at this;simpa using this)
          have l2:L2=[]:=List.length_eq_zero_iff.1 (by have:=e5.2.1;rw [hI.2] at this;simpa using this)
          subst l1 l2
          exact ⟨⟨⟨3,p.attr,r1,0,c1,r2,0,c2,p.lo,p.hi⟩,e1,⟨rfl,rfl,rfl,rfl,rfl,rfl,e2,e3⟩,e6,e7⟩,hb⟩
    · refine (M8 p.kind p.attr u.qi u.ci p.ints u.qw u.cw p.words p.lo p.hi w h7 h8 hs.1 hs.2 hok hk q1 q2 q3).mono fun e w' ⟨⟨L1,L2,r1,c1,r2,c2,e1,e2,e3,e4,e5,e6,e7⟩,hb⟩=>?_
      have hn:jr p=some ⟨p.kind,p.attr,L1,L2,p.lo,p.hi⟩:=by
        rw [Qu e4,Tm e5]
        rcases (j5 hok).2 with ⟨k,_,g1,g2,g3⟩ | ⟨k,_,g1,g2,g3⟩ | ⟨k,_⟩ | ⟨k,g0,g1,g2,g3⟩
        · rw [qt hok k,k,g1,g2,g3,rn (l:=[]) (l':=[]) (fun x=>Iff.rfl) List.Pairwise.nil]
        · rw [xi hok k,k,g1,g2,g3,pj (l:=[]) (l':=[]) (fun x=>Iff.rfl) List.Pairwise.nil]
        · exact absurd k hk
        · obtain ⟨s,hs'⟩:∃ s,p.words=[s]:=by
            rcases ql hok with k' | k' | k' | ⟨_,h⟩
            · omega
            · omega
            · omega
            · exact h
          rw [ta hok k,k,g1,g2,g3,hs',pj (l:=[]) (l':=[]) (fun x=>Iff.rfl) List.Pairwise.nil,rn (l:=[s]) (l':=[s]) (fun x=>Iff.rfl) (List.pairwise_singleton _ _)]
      rw [hn]
      exact ⟨⟨⟨p.kind,p.attr,r1,L1.length,c1,r2,L2.length,c2,p.lo,p.hi⟩,e1,⟨rfl,rfl,rfl,rfl,rfl,rfl,e2,e3⟩,e6,e7⟩,hb⟩
end Go.Proofs.YtimklglliffpcaaGreat

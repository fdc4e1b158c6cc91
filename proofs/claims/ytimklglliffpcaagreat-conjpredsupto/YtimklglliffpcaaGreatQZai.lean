/- conj.both, of any two normal predicates. -/
import Derived.Test.YtimklglliffpcaaGreatQCjBothP
import Derived.Test.YtimklglliffpcaaGreatQCjBothW
import Derived.Test.YtimklglliffpcaaGreatQZad
import Derived.Test.YtimklglliffpcaaGreatQZah
namespace Go.Proofs.YtimklglliffpcaaGreat
open Go.RowKit Go.Sort Go.Shelf
/-- conj.both. -/
theorem R4:Nc:=fun u v a b B w hB hu hv na nb hap T hT hOu hOv=>by
 unfold ry
 cases hs:mu b with
 | false=>exact Lg u v a b B w hB hu hv.1 na nb hap T hT hOu hs
 | true=>exact My v u b a B w hB hv hu.1 nb na hap.symm T hT hOv hs
end Go.Proofs.YtimklglliffpcaaGreat
namespace Go.Proofs.YtimklglliffpcaaGreat
open Go.RowKit Go.Sort Go.Shelf
set_option maxHeartbeats 2000000 in
set_option maxRecDepth 100000 in
theorem Tq (q:Option Addr) (p0:Pd) (w:World) (h:PdsOf w q 1 [p0]) (hs:p0.small) :
  Calls Tryz.prog 14 #[.slice q 1 1] w fun e w'=>(∃ r:Pv,e=.returned (.tuple #[.agg #[.int .i64 r.kind,.string r.attr,.slice r.qi r.ni r.ci,.slice r.qw r.nw r.cw,.int .i64 r.lo,.int .i64 r.hi],.bool (jr p0).isSome])/\PdOwn w.heap.size w' r ((jr p0).getD pr))/\Below w.heap.size w w':=by
 obtain ⟨b,off,u0,hq,hb,hu0,c0,c1,c2,c3,c4,c5⟩:=h.at (j:=0) (p:=p0) rfl
 subst hq
 obtain ⟨X,HX⟩:∃ X,w.alloc (.cells #[.int .i64 0,.string ⟨#[]⟩,.slice none 0 0,.slice none 0 0,.int .i64 0,.int .i64 0] 26)=X:=⟨_,rfl⟩
 have bX:Below w.heap.size w X:=by rw [<- HX];exact (Below.refl _ _).alloc (Nat.le_refl _) _
 have x8:X.heap[w.heap.size]? = some (.cells #[.int .i64 0,.string ⟨#[]⟩,.slice none 0 0,.slice none 0 0,.int .i64 0,.int .i64 0] 26 (0,0)):=by rw [<- HX];exact World.alloc_heap_new _ _
 have sX:X.heap.size=w.heap.size + 1:=by rw [<- HX];simp
 have hbel:=Below.refl X.heap.size X
 simp only [Nat.zero_mul,Nat.add_zero] at c0 c1 c2 c3 c4 c5
 have d0:=((d8 bX hbel).cell (p:=⟨b,_,none⟩) hb).trans c0
 have d1:=((d8 bX hbel).cell (p:=⟨b,_,none⟩) hb).trans c1
 have d2:=((d8 bX hbel).cell (p:=⟨b,_,none⟩) hb).trans c2
 have d3:=((d8 bX hbel).cell (p:=⟨b,_,none⟩) hb).trans c3
 have d4:=((d8 bX hbel).cell (p:=⟨b,_,none⟩) hb).trans c4
 have d5:=((d8 bX hbel).cell (p:=⟨b,_,none⟩) hb).trans c5
 have hN0:=tu u0 p0 X (hu0.keep bX) hs
 unfold Pv.val at hN0
 obtain ⟨o,ho⟩:∃ o,jr p0=o:=⟨_,rfl⟩
 rw [ho] at hN0 ⊢
 obtain ⟨x0,x1,x2,x3,x4,x5⟩:=kq x8
 have xf:=fun o=>gy (o:=o) x8
 have BX:=d9 bX
 have X8:=d9 x8
 clear bX x8 h hs c0 c1 c2 c3 c4 c5 hbel ho
 go_enter Tryz.func14,Tryz.ntmps14
 go_upto_region 4 with (go_at_call 16;refine hN0.mono ?_;rintro e w1 ⟨⟨r,rfl,ho0⟩,b1⟩;have B1:=d9 b1;have O0:=d9 ho0;clear b1 ho0)
 obtain ⟨Y,HY⟩:∃ Y,w1.alloc (.cells #[.int .i64 r.kind,.string r.attr,.slice r.qi r.ni r.ci,.slice r.qw r.nw r.cw,.int .i64 r.lo,.int .i64 r.hi] 26)=Y:=⟨_,rfl⟩
 rw [HY]
 have y8:Y.heap[w1.heap.size]? = some (.cells #[.int .i64 r.kind,.string r.attr,.slice r.qi r.ni r.ci,.slice r.qw r.nw r.cw,.int .i64 r.lo,.int .i64 r.hi] 26 (0,0)):=by rw [<- HY];exact World.alloc_heap_new _ _
 have bY:Below w1.heap.size w1 Y:=by rw [<- HY];exact (Below.refl _ _).alloc (Nat.le_refl _) _
 have s1:=(uh B1).size
 have q8:=((d8 (uh B1) bY).block w.heap.size (by omega)).trans (uh X8)
 have HPF:=d9 ((uh O0).below bY)
 have HNF:=d9 (show Off r (fun j=>j=w.heap.size) from Qf (uh O0) (fun k hk=>by omega))
 have BF:=d9 ((uh BX).trans ((d8 (uh B1) bY).mono (by omega)))
 clear x0 x1 x2 x3 x4 x5 xf
 obtain ⟨x0,x1,x2,x3,x4,x5⟩:=kq q8
 have xf:=fun o=>gy (o:=o) q8
 obtain ⟨f0,f1,f2,f3,f4,f5⟩:=kq y8
 clear y8 bY HY d0 d1 d2 d3 d4 d5 hN0 q8
 go_wp2
 go_loopw [5,24] (fun ok iv wr=>ok=.bool o.isSome/\iv=.int .i64 0/\wr=Y) (fun _ _ _=>0)
 case atStart=>exact ⟨rfl,rfl,rfl⟩
 case round =>
  obtain ⟨rfl,rfl,rfl⟩:=hrel
  go_wp2
  exact bodyPost_ret (v:=.tuple #[.agg #[.int .i64 r.kind,.string r.attr,.slice r.qi r.ni r.ci,.slice r.qw r.nw r.cw,.int .i64 r.lo,.int .i64 r.hi],.bool o.isSome]) (by simp [results,Tryz.results14,go_sem, *]) rfl ⟨⟨r,rfl,((((((((uh HPF).setC (uh HNF) rfl 0 _).setC (uh HNF) rfl 1 _).setC (uh HNF) rfl 2 _).setC (uh HNF) rfl 3 _).setC (uh HNF) rfl 4 _).setC (uh HNF) rfl 5 _)).mono (by omega)⟩,(((((((uh BF).setCell (p:=⟨w.heap.size,0,none⟩) (Nat.le_refl _) _).setCell (p:=⟨w.heap.size,1,none⟩) (Nat.le_refl _) _).setCell (p:=⟨w.heap.size,2,none⟩) (Nat.le_refl _) _).setCell (p:=⟨w.heap.size,3,none⟩) (Nat.le_refl _) _).setCell (p:=⟨w.heap.size,4,none⟩) (Nat.le_refl _) _).setCell (p:=⟨w.heap.size,5,none⟩) (Nat.le_refl _) _)⟩
/-- conj.Meet. -/
theorem Dc (q:Option Addr) (c:Nat) (l:List Pd) (w:World) (h:PdsOf w q c l) (hs:Small l) (hl:l.length<=10000000000000) :
  Calls Tryz.prog 14 #[.slice q l.length c] w fun e w'=>(∃ r:Pv,e=.returned (.tuple #[.agg #[.int .i64 r.kind,.string r.attr,.slice r.qi r.ni r.ci,.slice r.qw r.nw r.cw,.int .i64 r.lo,.int .i64 r.hi],.bool (kz l).isSome])/\PdOwn w.heap.size w' r ((kz l).getD pr))/\Below w.heap.size w w':=by
 cases l with
 | nil=>exact (Q2 q c w).mono fun e w' ⟨he,hb⟩=>⟨⟨pc,he,ku _ _⟩,hb⟩
 | cons p0 ps =>
  rw [List.length_cons] at hl
  by_cases hc:c=1
  ·subst hc
   have h1:=h.cap.1
   rw [List.length_cons] at h1
   obtain rfl:ps=[]:=List.length_eq_zero_iff.1 (by omega)
   exact Tq q p0 w h (hs p0 (by simp))
  ·exact Na q c p0 ps w h hs (by omega) hc R4
end Go.Proofs.YtimklglliffpcaaGreat
namespace Go.Proofs.YtimklglliffpcaaGreat
open Go.RowKit Go.Sort Go.Shelf Go.Maps
theorem Ag {α:Type} [Inhabited α] {enc:α->List Value} {e:TypeId} {k B:Nat} {w w':World} {q:Option Addr} {c:Nat} {l:List α} (h:w'.heap=w.heap) (ho:OwnK enc e k B w q c l):OwnK enc e k B w' q c l:=by
 unfold OwnK World.ownsRow at *
 rw [h]
 exact ho
theorem An {α:Type} [Inhabited α] {enc:α->List Value} {k:Nat} {w w':World} {q:Option Addr} {c:Nat} {l:List α} (h:w'.heap=w.heap) (ho:Cg enc k w q c l):Cg enc k w' q c l:=by
 refine ⟨ho.1,fun ad e j u hj=>?_⟩
 have:=ho.2 ad e j u hj
 unfold World.cell? at *
 rw [h]
 exact this
theorem Mx {w w1 w':World} {r:Option Nat} (e1:w1.heap=w.heap) (e2:w1.os=w.os) (e3:w1.tape=w.tape) (e4:w1.output=w.output) (h:w1.grownBy w' r):w.grownBy w' r:=⟨h.os.trans e2,h.tape.trans e3,h.output.trans e4,by rw [<- e1];exact h.size,by rw [<- e1];exact h.block⟩
theorem Kk {α:Type} [Inhabited α] {enc:α->List Value} {k:Nat} {w w':World} {q:Option Addr} {c:Nat} {l:List α} {r:Option Nat} (h:SlOf enc k w q c l) (hg:w.grownBy w' r) (hne:∀ p,q=some p->some p.block ≠ r):SlOf enc k w' q c l:=by
 refine ⟨h.1,h.2.1,h.2.2.1,fun h0=>?_⟩
 obtain ⟨b,off,h1,h2,h3⟩:=h.2.2.2 h0
 refine ⟨b,off,h1,Nat.lt_of_lt_of_le h2 hg.size,fun j u hj=>?_⟩
 exact (World.cell?_of_block (a:=⟨b,off + j,Option.none⟩) (hg.block b h2 (hne _ h1))).trans (h3 j u hj)
theorem Qx {ls:List Lt} {k:Nat} {l:Lt} (h:ls[k]? = some l) (hn:l.neg=false):tx (ls.take (k + 1))=Zs (tx (ls.take k)) l.attr (Aq l):=by
 funext b
 unfold tx Zs
 rw [E7 h,if_neg (by simp [hn]),List.filter_append]
 by_cases e:b=l.attr
 ·subst e
  rw [if_pos rfl]
  simp [Aq]
 ·rw [if_neg e]
  have:¬ (Aq l).attr=b:=fun e2=>e e2.symm
  simp [this]
theorem R9 {ls:List Lt} {k:Nat} {l:Lt} (h:ls[k]? = some l) (hn:l.neg=true):tx (ls.take (k + 1))=tx (ls.take k):=by
 funext b
 unfold tx
 rw [E7 h,if_pos hn,List.append_nil]
theorem Nk (ls:List Lt) (a:ByteArray):(tx ls a).length<=ls.length:=Nat.le_trans (List.length_filter_le _ _) (Rn ls)
theorem Pj {ls:List Lt} (h:SmallL ls) (a:ByteArray):Small (tx ls a):=by
 intro p hp
 obtain ⟨l,hl,hn⟩:=List.mem_filterMap.1 (List.mem_filter.1 hp).1
 split at hn
 ·cases hn
 ·cases hn;exact h l hl
/-- The names are those of the literals that must hold. -/
theorem Rv {w:World} {m:Nat} {wr:World} {n:Nat} {ls:List Lt} (h:MM w m wr n (tx ls)):∃ f,SM wr m n f/\∀ l,Ak f l->l=qd ls:=by
 obtain ⟨f,h1,h2,h3,_⟩:=h
 refine ⟨f,h1,fun l hl=>?_⟩
 have hiff:∀ a,(f a).isSome=true ↔ a ∈ (Qh ls).map Pd.attr:=fun a=>by
  have hg:tx ls a ≠ [] ↔ a ∈ (Qh ls).map Pd.attr:=by
   unfold tx
   rw [List.mem_map,ne_eq,List.filter_eq_nil_iff]
   constructor
   ·intro hx
    obtain ⟨p,hp,he⟩:=Classical.not_forall.1 hx |>.imp fun p hp=>Classical.not_imp.1 hp
    exact ⟨p,hp,by simpa using he⟩
   ·rintro ⟨p,hp,he⟩ hx
    exact hx p hp (by simpa using he)
  rw [<- hg]
  cases hf:f a with
  | none=>simp [h2 a hf]
  | some x =>
   obtain ⟨h5,h6,_⟩:=h3 a x hf
   simp only [Option.isSome_some,true_iff]
   intro e
   rw [e] at h6
   simp at h6
   omega
 have hs:=mj ((Qh ls).map Pd.attr)
 have hlt:∀ a b:ByteArray,ltS a b->a.data.toList < b.data.toList:=fun a b hab=>by
  have h5:Op.bytesLess a.data.toList b.data.toList=true:=by
   cases hc:Op.bytesLess a.data.toList b.data.toList with
   | true=>rfl
   | false =>
    exfalso
    unfold ltS ri at hab
    rw [if_neg (by simp [hc])] at hab
    split at hab <;> omega
  rw [bytesLess_eq] at h5
  simpa using h5
 have h9:Ak f (qd ls):=⟨hs.2.1.imp fun {a b} hab=>hlt a b hab,fun a=>(hs.1 a).trans (hiff a).symm⟩
 exact List.Perm.eq_of_pairwise (le:=fun x y:ByteArray=>x.data.toList < y.data.toList) (fun _ _ _ _ h1 h2=>absurd h2 (List.lt_asymm h1)) hl.1 h9.1 ((List.perm_ext_iff_of_nodup (za hl) (za h9)).2 fun x=>(hl.2 x).trans (h9.2 x).symm)
theorem za3 (n:Nat) (h:n * 88<=140737488355328):∃ cur:Array Value,cur.size=n * 6/\∀ W:World,(Instr.makeSlice 22 (.int .i64 0) (.int .i64 (n:Int))).run Tryz.prog W=.ok (.slice (some ⟨W.heap.size,0,none⟩) 0 n) (W.alloc (.cells cur 26)):=by
 obtain ⟨i0,hi,hz0,hz1,hz2⟩:=info_parts Tryz.info26
 refine ⟨madeCells (Value.agg #[.int .i64 0,.string ⟨#[]⟩,.slice none 0 0,.slice none 0 0,.int .i64 0,.int .i64 0]).cells (n * i0.size),by rw [size_madeCells,hz1],fun W=>?_⟩
 have:=run_make (P:=Tryz.prog) W 22 26 i0 _ Tryz.underlying22 hi hz0 .i64 .i64 0 (n:Int) (Int.le_refl _) (by omega) (by rw [hz2];omega) (by omega)
 simpa only [Int.toNat_zero,Int.toNat_natCast] using this
theorem GrowD.made {w:World} {n:Nat} {cur:Array Value} (hn:n<=maxLen) (hs:cur.size=n * 6):GrowD w.heap.size (w.alloc (.cells cur 26)) (some ⟨w.heap.size,0,none⟩) n 0 []:=by
 refine ⟨rfl,[],rfl, ?_,fun _ _ _ j u l h=>by simp at h⟩
 have:(flatK sc 6 ([]:List Pv).toArray).toList=[]:=by simp [flatK]
 unfold OwnK;rw [this];exact World.ownsRow_made w cur n (Nat.le_refl _) hn hs
end Go.Proofs.YtimklglliffpcaaGreat

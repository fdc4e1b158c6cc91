/- What schema.Get and the reference's Get return, for every list of pairs and every name: the same. -/
import Derived.Test.YtencibjmiphinaaGreatDoorEZat
import Derived.Shelf.SlSortCmp.WholeK
import Derived.Shelf.SlSortCmp.NoneTotal
import Derived.Shelf.SlicesE.Clone
import Derived.Shelf.SlicesQ.Contains
import Derived.Test.YtencibjmiphinaaGreatDoorProg
namespace Go.Proofs.YtencibjmiphinaaGreatDoor.Sc
open Go.RowKit
/-- The block b holds one value, and may be written. -/
def Box (w:World) (b:Nat) (x:Int × Int × ByteArray):Prop :=
  w.cell? ⟨b,0,none⟩=some (.int .i64 x.1)/\w.cell? ⟨b,1,none⟩=some (.int .i64 x.2.1)/\w.cell? ⟨b,2,none⟩=some (.string x.2.2)/\(∀ o,w.frozen? ⟨b,o,none⟩=false)/\b < w.heap.size
theorem Box.belowAt {B:Nat} {w w':World} {b:Nat} {x:Int × Int × ByteArray} (h:Box w b x) (hb:Below B w w') (hB:b < B):Box w' b x:=by
 obtain ⟨h1,h2,h3,h4,h5⟩:=h
 exact ⟨(hb.cell (by exact hB)).trans h1,(hb.cell (by exact hB)).trans h2,(hb.cell (by exact hB)).trans h3,fun o=>(hb.frozen (by exact hB)).trans (h4 o),Nat.lt_of_lt_of_le h5 hb.size⟩
theorem Box.below {w w':World} {b:Nat} {x:Int × Int × ByteArray} (h:Box w b x) (hb:Below w.heap.size w w'):Box w' b x:=h.belowAt hb h.2.2.2.2
def put3 (w:World) (b:Nat) (y:Int × Int × ByteArray):World:=((w.setCell ⟨b,0,none⟩ (.int .i64 y.1)).setCell ⟨b,1,none⟩ (.int .i64 y.2.1)).setCell ⟨b,2,none⟩ (.string y.2.2)
theorem Box.put {w:World} {b:Nat} {x:Int × Int × ByteArray} (h:Box w b x) (y:Int × Int × ByteArray):Box (put3 w b y) b y:=by
 obtain ⟨h1,h2,h3,h4,h5⟩:=h
 unfold put3
 refine ⟨?_, ?_, ?_,fun o=>?_, ?_⟩
 ·go_simp
 ·go_simp
 ·go_simp
 ·go_simp
 ·simpa [World.setCell] using h5
theorem Box.new (w:World) (x:Int × Int × ByteArray) (t:TypeId):Box (w.alloc (.cells #[.int .i64 x.1,.int .i64 x.2.1,.string x.2.2] t)) w.heap.size x:=by
 refine ⟨?_, ?_, ?_,fun o=>?_,by simp⟩ <;> simp
theorem Box.alloc {w:World} {b:Nat} {x:Int × Int × ByteArray} (h:Box w b x) (o:Obj):Box (w.alloc o) b x:=h.below ((Below.refl _ _).alloc (Nat.le_refl _) _)
end Go.Proofs.YtencibjmiphinaaGreatDoor.Sc
namespace Go.Proofs
open Go.Shelf
def Tryz.cloneA_ren:Go.Shelf.Ren:=⟨fun | 41=>61 | n=>n,fun | 22=>35 | 23=>62 | 4=>4 | n=>n,fun | n=>n⟩
theorem Tryz.cloneA:Go.Proofs.SlLaysE0.n41 Tryz.prog Tryz.cloneA_ren:={
 mixed:=by kernel_rfl
 f41:=⟨Tryz.f61.name,by decide,Tryz.func61.trans (congrArg some (by kernel_rfl))⟩
 t4:=Tryz.underlying4
 a4:=Tryz.isAgg4
 z4:=Tryz.sizeOf4
 v4:=Tryz.zeroValue4
 t22:=Tryz.underlying35
 a22:=Tryz.isAgg35
 z22:=Tryz.sizeOf35
 v22:=Tryz.zeroValue35 }
def Tryz.sortA_ren:Go.Shelf.Ren:=⟨fun | 6=>62 | 15=>105 | 14=>104 | 28=>133 | 29=>134 | 20=>125 | 21=>126 | 22=>127 | 23=>128 | 24=>129 | 25=>130 | 26=>131 | 27=>132 | 46=>144 | 47=>145 | 48=>146 | 49=>147 | 50=>148 | 57=>160 | n=>n,fun | 22=>35 | 24=>62 | 25=>106 | 3=>3 | 39=>138 | 0=>0 | 53=>159 | 55=>161 | 4=>4 | 46=>153 | 45=>152 | 50=>128 | 5=>5 | 9=>9 | 66=>168 | 70=>172 | 76=>177 | 77=>178 | n=>n,fun | n=>n⟩
theorem Tryz.sortA:Go.Proofs.SlLaysF0.n6 Tryz.prog Tryz.sortA_ren:={
 mixed:=by kernel_rfl
 f6:=⟨Tryz.f62.name,by decide,Tryz.func62.trans (congrArg some (by kernel_rfl))⟩
 f14:=⟨Tryz.f104.name,by decide,Tryz.func104.trans (congrArg some (by kernel_rfl))⟩
 f15:=Tryz.func105.trans (congrArg some (by kernel_rfl))
 f20:=⟨Tryz.f125.name,by decide,Tryz.func125.trans (congrArg some (by kernel_rfl))⟩
 f21:=⟨Tryz.f126.name,by decide,Tryz.func126.trans (congrArg some (by kernel_rfl))⟩
 f22:=⟨Tryz.f127.name,by decide,Tryz.func127.trans (congrArg some (by kernel_rfl))⟩
 f23:=⟨Tryz.f128.name,by decide,Tryz.func128.trans (congrArg some (by kernel_rfl))⟩
 f24:=⟨Tryz.f129.name,by decide,Tryz.func129.trans (congrArg some (by kernel_rfl))⟩
 f25:=⟨Tryz.f130.name,by decide,Tryz.func130.trans (congrArg some (by kernel_rfl))⟩
 f26:=⟨Tryz.f131.name,by decide,Tryz.func131.trans (congrArg some (by kernel_rfl))⟩
 f27:=⟨Tryz.f132.name,by decide,Tryz.func132.trans (congrArg some (by kernel_rfl))⟩
 f28:=Tryz.func133.trans (congrArg some (by kernel_rfl))
 f29:=Tryz.func134.trans (congrArg some (by kernel_rfl))
 f46:=⟨Tryz.f144.name,by decide,Tryz.func144.trans (congrArg some (by kernel_rfl))⟩
 f47:=Tryz.func145.trans (congrArg some (by kernel_rfl))
 f48:=Tryz.func146.trans (congrArg some (by kernel_rfl))
 f49:=⟨Tryz.f147.name,by decide,Tryz.func147.trans (congrArg some (by kernel_rfl))⟩
 f50:=⟨Tryz.f148.name,by decide,Tryz.func148.trans (congrArg some (by kernel_rfl))⟩
 f57:=⟨Tryz.f160.name,by decide,Tryz.func160.trans (congrArg some (by kernel_rfl))⟩
 t0:=Tryz.underlying0
 a0:=Tryz.isAgg0
 z0:=Tryz.sizeOf0
 v0:=Tryz.zeroValue0
 t3:=Tryz.underlying3
 a3:=Tryz.isAgg3
 z3:=Tryz.sizeOf3
 v3:=Tryz.zeroValue3
 t4:=Tryz.underlying4
 a4:=Tryz.isAgg4
 z4:=Tryz.sizeOf4
 v4:=Tryz.zeroValue4
 t5:=Tryz.underlying5
 a5:=Tryz.isAgg5
 z5:=Tryz.sizeOf5
 v5:=Tryz.zeroValue5
 t9:=Tryz.underlying9
 a9:=Tryz.isAgg9
 z9:=Tryz.sizeOf9
 v9:=Tryz.zeroValue9
 t22:=Tryz.underlying35
 a22:=Tryz.isAgg35
 z22:=Tryz.sizeOf35
 v22:=Tryz.zeroValue35
 t25:=Tryz.underlying106
 a25:=Tryz.isAgg106
 z25:=Tryz.sizeOf106
 v25:=Tryz.zeroValue106
 t39:=Tryz.underlying138
 a39:=Tryz.isAgg138
 z39:=Tryz.sizeOf138
 v39:=Tryz.zeroValue138
 t45:=Tryz.underlying152
 a45:=Tryz.isAgg152
 z45:=Tryz.sizeOf152
 v45:=Tryz.zeroValue152
 t46:=Tryz.underlying153
 a46:=Tryz.isAgg153
 z46:=Tryz.sizeOf153
 v46:=Tryz.zeroValue153
 t50:=Tryz.underlying128
 a50:=Tryz.isAgg128
 z50:=Tryz.sizeOf128
 v50:=Tryz.zeroValue128
 t53:=Tryz.underlying159
 a53:=Tryz.isAgg159
 z53:=Tryz.sizeOf159
 v53:=Tryz.zeroValue159
 t55:=Tryz.underlying161
 a55:=Tryz.isAgg161
 z55:=Tryz.sizeOf161
 v55:=Tryz.zeroValue161
 t66:=Tryz.underlying168
 a66:=Tryz.isAgg168
 z66:=Tryz.sizeOf168
 v66:=Tryz.zeroValue168
 t70:=Tryz.underlying172
 a70:=Tryz.isAgg172
 z70:=Tryz.sizeOf172
 v70:=Tryz.zeroValue172
 t76:=Tryz.underlying177
 a76:=Tryz.isAgg177
 z76:=Tryz.sizeOf177
 v76:=Tryz.zeroValue177
 t77:=Tryz.underlying178
 a77:=Tryz.isAgg178
 z77:=Tryz.sizeOf178
 v77:=Tryz.zeroValue178 }
end Go.Proofs
namespace Go.Proofs.YtencibjmiphinaaGreatDoor.Sc
open Go.RowKit Go.Sort Go.Shelf
def encA (x:ByteArray × Int):List Value:=[.string x.1,.int .i64 x.2]
def encP (x:ByteArray × Int × Int × ByteArray):List Value:=[.string x.1,.int .i64 x.2.1,.int .i64 x.2.2.1,.string x.2.2.2]
def cfA (x y:ByteArray × Int):Int:=cmpS x.1.toList y.1.toList
theorem attrName_any (x:ByteArray × Int) (w:World) :
  Calls Tryz.prog 32 #[.agg #[.string x.1,.int .i64 x.2]] w fun e w'=>e=.returned (.string x.1)/\∃ q os',w'=grow (w.drewN q) os':=by
 go_enter Tryz.func32,Tryz.ntmps32
 go_wp2
 go_ret
 exact ⟨rfl,0,_,by rw [alloc_eq_grow];rfl⟩
theorem compare_any (a b:ByteArray) (w:World) :
  Calls Tryz.prog 64 #[.string a,.string b] w fun e w'=>e=.returned (.int .i64 (cmpS a.toList b.toList))/\∃ q os',w'=grow (w.drewN q) os' :=
 (cmpStr_any a b w).mono fun _ _ ⟨he,hw⟩=>⟨he,0,#[],by rw [hw,grow_empty];rfl⟩
set_option maxHeartbeats 1000000 in
theorem closureA (x y:ByteArray × Int) (c:Nat) (W:World) (hc:W.cell? ⟨c,0,none⟩=some (.func (.func 32) #[] #[])) (hb:c < W.heap.size) :
  Calls Tryz.prog 63 #[.agg #[.string x.1,.int .i64 x.2],.agg #[.string y.1,.int .i64 y.2],.pointer (some ⟨c,0,none⟩)] W fun e w'=>e=.returned (.int .i64 (cfA x y))/\∃ q os',w'=grow (W.drewN q) os':=by
 have mixed:Tryz.prog.follows .mixedOrders=true:=by kernel_rfl
 have e30:∀ args w,(callFunc 32 args).run Tryz.prog w=.ok (.enter 32 args) w:=enters_of Tryz.func32 (by kernel_rfl) rfl
 have e42:∀ args w,(callFunc 64 args).run Tryz.prog w=.ok (.enter 64 args) w:=enters_of Tryz.func64 (by kernel_rfl) rfl
 obtain ⟨w0,hw0⟩:∃ w0,w0=(W.alloc (.cells #[.string x.1,.int .i64 x.2] 62)).alloc (.cells #[.string y.1,.int .i64 y.2] 62):=⟨_,rfl⟩
 have c0:∀ n os,(grow (w0.drewN n) os).cell? ⟨c,0,none⟩=some (.func (.func 32) #[] #[]):=cell_grown (by simp [hw0];omega) (by subst hw0;go_simp)
 have x0:∀ n os,(grow (w0.drewN n) os).cell? ⟨W.heap.size,0,none⟩=some (.string x.1):=cell_grown (by simp [hw0];omega) (by subst hw0;go_simp)
 have x1:∀ n os,(grow (w0.drewN n) os).cell? ⟨W.heap.size,1,none⟩=some (.int .i64 x.2):=cell_grown (by simp [hw0];omega) (by subst hw0;go_simp)
 have y0:∀ n os,(grow (w0.drewN n) os).cell? ⟨W.heap.size + 1,0,none⟩=some (.string y.1):=cell_grown (by simp [hw0]) (by subst hw0;go_simp)
 have y1:∀ n os,(grow (w0.drewN n) os).cell? ⟨W.heap.size + 1,1,none⟩=some (.int .i64 y.2):=cell_grown (by simp [hw0]) (by subst hw0;go_simp)
 have Hw0:=hide hw0
 go_enter Tryz.func63,Tryz.ntmps63
 go_wp2
 rw [<- hw0]
 clear hw0
 go_quiet_grown (first
  | (go_at_fn 32;refine Calls.grown_of (attrName_any _ _))
  | (go_at_fn 64;refine Calls.grown_of (compare_any _ _ _)))
 go_wp2
 go_ret
 refine ⟨rfl, ?_⟩
 rw [uh Hw0,alloc_eq_grow,alloc_eq_grow,grow_grow]
 exact ⟨_,_,by rw [show (grow W _).drewN nq=grow (W.drewN nq) _ from rfl,grow_grow]⟩
theorem cmp_lays_cell {α:Type} [Inhabited α] {enc:α->List Value} {k blk off m c:Nat} {dk:Array α} {os:Array Obj} {w:World} {v:Value} (hc:w.cell? ⟨c,0,none⟩=some v) (hb:c < w.heap.size) (hne:c ≠ blk) :
  (sortWorldK enc k w blk off m dk os).cell? ⟨c,0,none⟩=some v/\c < (sortWorldK enc k w blk off m dk os).heap.size:=by
 have hz:(putRowK enc k (Sort.ahead w m) blk off dk).heap.size=w.heap.size:=by
  unfold putRowK;simp
 unfold sortWorldK
 refine ⟨?_, ?_⟩
 ·rw [cell?_grow _ _ _ (by rw [hz];exact hb),cell?_putRowK_other _ _ _ _ _ _ _ (by exact hne)]
  exact hc
 ·simp [grow,hz];omega
theorem lt_cf {a b:List UInt8}:decide (cmpS a b < 0)=Op.bytesLess a b:=by
 rcases cmpS_cases a b with ⟨h1,h2⟩ | ⟨h1,h2⟩ | ⟨h1,h2⟩
 ·rw [h1,h2];decide
 ·rw [h2,h1,less_irrefl];decide
 ·rw [h2,less_asymm _ _ h1];decide
theorem not_less_trans {a b c:List UInt8} (h1:Op.bytesLess a b=false) (h2:Op.bytesLess b c=false):Op.bytesLess a c=false:=by
 cases h:Op.bytesLess a c with
 | false=>rfl
 | true =>
  by_cases e:a=b
  ·rw [e,h2] at h;cases h
  ·have:=less_total _ _ h1 e
   rw [less_trans _ _ _ this h] at h2;cases h2
theorem swoA:SWO (ltOf cfA) where
 irrefl x:=by unfold ltOf cfA;rw [lt_cf];exact less_irrefl _
 trans x y z h1 h2:=by unfold ltOf cfA at *;rw [lt_cf] at *;exact less_trans _ _ _ h1 h2
 ntrans x y z h1 h2:=by unfold ltOf cfA at *;rw [lt_cf] at *;exact not_less_trans h1 h2
theorem cmpLaysA (c blk off size:Nat) (w:World) (hc:w.cell? ⟨c,0,none⟩=some (.func (.func 32) #[] #[])) (hb:c < w.heap.size) (hne:c ≠ blk):CmpLays Tryz.prog 63 #[.pointer (some ⟨c,0,none⟩)] encA 2 cfA blk off size w :=
 fun _ _ _ _ x y=>closureA x y c _ (cmp_lays_cell hc hb hne).1 (cmp_lays_cell hc hb hne).2
end Go.Proofs.YtencibjmiphinaaGreatDoor.Sc
namespace Go.Proofs.YtencibjmiphinaaGreatDoor.Sc
open Go.RowKit Go.Sort Go.Shelf
theorem info_parts {P:Program} {t:TypeId} {z:Value} {k b:Nat} (h:(P.info? t).map (fun i=>(i.zero,i.size,i.bytes))=some (some z,k,b)):∃ i0,P.info? t=some i0/\i0.zero=some z/\i0.size=k/\i0.bytes=b:=by
 cases hi:P.info? t with
 | none=>rw [hi] at h;cases h
 | some i =>
  rw [hi] at h
  simp only [Option.map_some,Option.some.injEq,Prod.mk.injEq] at h
  exact ⟨i,rfl,h.1,h.2.1,h.2.2⟩
theorem frozen_free {w:World} {g o:Nat} {cur:Array Value} {e:TypeId} (h:w.heap[g]? = some (.cells cur e (0,0))):w.frozen? ⟨g,o,none⟩=false:=by
 unfold World.frozen?;simp [h]
/-- A row that is the call's own, as the sort's kit says it. -/
theorem holds_own {α:Type} [Inhabited α] {enc:α->List Value} {k:Nat} {w:World} {B:Nat} {e:TypeId} {v:Value} {d:Array α} (hv:v ≠ .slice none 0 0) (h:w.ownsRow B e k v d.size (flatK enc k d).toList) :
    ∃ g cap,v=.slice (some ⟨g,0,none⟩) d.size cap/\B<=g/\g < w.heap.size/\HoldsK enc k w g 0 d/\d.size<=cap/\cap<=maxLen:=by
  rcases h.2 with ⟨h0,_⟩ | ⟨g,cap,cur,rfl,hB,hblk,hc,hm,_,_⟩
  · exact absurd h0 hv
  · refine ⟨g,cap,rfl,hB,(Array.getElem?_eq_some_iff.1 hblk).1,fun t ht=>⟨?_,frozen_free hblk⟩,hc,hm⟩
    rw [Nat.zero_add,h.cellAt t (by simpa using ht)]
    have ht':t < (flatK enc k d).size:=ht
    rw [Array.getElem?_toList,Array.getElem?_eq_getElem ht',getElem!_pos _ t ht']
    rfl
theorem get_bang {α:Type} [Inhabited α] {l:List α} {j:Nat} {x:α} (h:l[j]? = some x):l.toArray[j]! = x:=by
 have hj:j < l.length:=(List.getElem?_eq_some_iff.1 h).1
 rw [getElem!_pos _ j (by simpa using hj)]
 simpa [List.getElem?_eq_getElem hj] using h
theorem bang_get {α:Type} [Inhabited α] {l:List α} {j:Nat} (h:j < l.length):l[j]? = some l.toArray[j]!:=by
 rw [getElem!_pos _ j (by simpa using h)]
 simp [List.getElem?_eq_getElem h]
/-- New memory of the list l: q, behind B. -/
def NewA (B:Nat) (w:World) (q:Option Addr) (cap:Nat) (l:List (ByteArray × Int)):Prop :=
  (q=none/\l=[]/\cap=0) ∨ ∃ g,q=some ⟨g,0,none⟩/\B<=g/\g < w.heap.size/\HoldsK encA 2 w g 0 l.toArray/\l.length<=cap/\cap<=maxLen
theorem AtsAt.of_holds {w:World} {g off:Nat} {l:List (ByteArray × Int)} (h:HoldsK encA 2 w g off l.toArray):AtsAt w g off l:=fun j x hj=>by
 have hl:j < l.length:=(List.getElem?_eq_some_iff.1 hj).1
 have e:=get_bang hj
 have hc:=fun c (hc:c < 2)=>(h.cell (i:=j) (c:=c) (by simpa using hl) hc).1
 rw [e] at hc
 exact ⟨hc 0 (by omega),hc 1 (by omega)⟩
theorem AtsAt.flat {w:World} {b off:Nat} {l:List (ByteArray × Int)} (h:AtsAt w b off l):∀ (j:Nat) (u:Value),(flatK encA 2 l.toArray).toList[j]? = some u->w.cell? ⟨b,off + j,none⟩=some u:=by
 intro j u hj
 rw [Array.getElem?_toList] at hj
 obtain ⟨hs,hu⟩:=Array.getElem?_eq_some_iff.1 hj
 have hlt:j < l.toArray.size * 2:=by simpa using hs
 have hg:=get_flatK encA 2 l.toArray j hlt
 rw [getElem!_pos _ j hs,hu] at hg
 have hq:j / 2 < l.length:=by simp at hlt;omega
 have hx:=h (j / 2) _ (bang_get hq)
 rw [hg]
 have hj2:j=j / 2 * 2 + j % 2:=by omega
 have hm:j % 2=0 ∨ j % 2=1:=by omega
 rcases hm with e | e
 ·rw [e];rw [e] at hj2
  have:off + j=off + j / 2 * 2:=by omega
  rw [this];exact hx.1
 ·rw [e];rw [e] at hj2
  have:off + j=off + j / 2 * 2 + 1:=by omega
  rw [this];exact hx.2
theorem NewA.of {B:Nat} {w:World} {q:Option Addr} {cap:Nat} {l:List (ByteArray × Int)} (h:NewA B w q cap l):AtsOf w q l:=fun h0=>by
 rcases h with ⟨_,rfl,_⟩ | ⟨g,rfl,_,hg,hH,_,_⟩
 ·simp at h0
 ·exact ⟨g,0,rfl,hg,AtsAt.of_holds hH⟩
theorem NewA.below {B:Nat} {w w':World} {q:Option Addr} {cap:Nat} {l:List (ByteArray × Int)} (h:NewA B w q cap l) (hb:Below w.heap.size w w'):NewA B w' q cap l:=by
 rcases h with h | ⟨g,rfl,hB,hg,hH,hc⟩
 ·exact Or.inl h
 ·exact Or.inr ⟨g,rfl,hB,Nat.lt_of_lt_of_le hg hb.size,fun t ht=>⟨(hb.cell (by exact hg)).trans (hH t ht).1,(hb.frozen (by exact hg)).trans (hH t ht).2⟩,hc⟩
theorem NewA.mono {B B':Nat} {w:World} {q:Option Addr} {cap:Nat} {l:List (ByteArray × Int)} (h:NewA B w q cap l) (hb:B'<=B):NewA B' w q cap l:=by
 rcases h with h | ⟨g,rfl,hB,hr⟩
 ·exact Or.inl h
 ·exact Or.inr ⟨g,rfl,Nat.le_trans hb hB,hr⟩
theorem Tryz.info62:(Tryz.prog.info? 62).map (fun i=>(i.zero,i.size,i.bytes))=some (some (.agg #[.string ⟨#[]⟩,.int .i64 0]),2,24):=by kernel_rfl
theorem cloneA_some (b off cap:Nat) (l:List (ByteArray × Int)) (w:World) (hl:l.length * 24<=140737488355328) (hA:AtsAt w b off l) :
  Calls Tryz.prog 61 #[.slice (some ⟨b,off,none⟩) l.length cap] w fun e w'=>∃ q cap',e=.returned (.slice q l.length cap')/\NewA w.heap.size w' q cap' l/\q ≠ none/\Below w.heap.size w w':=by
 obtain ⟨i0,hi,hz0,hz1,hz2⟩:=info_parts Tryz.info62
 have hc:=AnyE.slices_Clone Tryz.cloneA i0 (.agg #[.string ⟨#[]⟩,.int .i64 0]) 2 24 hi hz0 hz1 hz2 rfl (by decide) Tryz.sizeOf62 b off l.length cap (flatK encA 2 l.toArray).toList w (by simp) (by unfold maxLen;omega) hl hA.flat (fun u hu=>by
  rw [Array.mem_toList_iff] at hu
  obtain ⟨j,hj,rfl⟩:=Array.mem_iff_getElem.1 hu
  have hg:=get_flatK encA 2 l.toArray j (by simpa using hj)
  rw [getElem!_pos _ j hj] at hg
  rw [hg]
  have hm:j % 2=0 ∨ j % 2=1:=by omega
  rcases hm with e | e <;> rw [e] <;> rfl)
 change Calls Tryz.prog 61 _ _ _ at hc
 refine hc.mono fun e w' ⟨v',he,hown,hv,hb⟩=>?_
 obtain ⟨g,cap',rfl,hB,hg,hH,hcc⟩:=holds_own (d:=l.toArray) (enc:=encA) hv (by simpa using hown)
 exact ⟨_,cap',by rw [he];simp,Or.inr ⟨g,rfl,hB,hg,hH,by simpa using hcc⟩,by simp,hb⟩
theorem cloneA_nil (w:World):Calls Tryz.prog 61 #[.slice none 0 0] w fun e w'=>e=.returned (.slice none 0 0)/\w'=w:=by
 have hc:=AnyE.slices_Clone_nil Tryz.cloneA 0 0 w
 change Calls Tryz.prog 61 _ _ _ at hc
 exact hc
set_option maxHeartbeats 1000000 in
theorem cloneA_empty (a:Addr) (cap:Nat) (w:World) :
  Calls Tryz.prog 61 #[.slice (some a) 0 cap] w fun e w'=>∃ q cap',e=.returned (.slice q 0 cap')/\NewA w.heap.size w' q cap' []/\q ≠ none/\Below w.heap.size w w':=by
 obtain ⟨i0,hi,hz0,hz1,hz2⟩:=info_parts Tryz.info62
 have q22:∀ (w:World) (a:Option Addr) (n c n' c':Nat),(binOp .eql 35 (.slice a n c) (.slice none n' c')).run Tryz.prog w=.ok (.bool a.isNone) w:=fun w a n c n' c'=>Lib.run_eql_slice_nil w _ _ a n c n' c' Tryz.underlying35
 go_enter Tryz.func61,Tryz.ntmps61
 go_wp2_with (at_builtin;refine wpList_append_own _ rfl _ _ 35 rfl w.heap.size 62 i0 (.agg #[.string ⟨#[]⟩,.int .i64 0]) 2 24 Tryz.underlying35 hi hz0 hz1 hz2 rfl (by decide) _ _ _ rfl (World.ownsRow_made w #[] 0 (Nat.le_refl _) (Nat.zero_le _) (by simp)) a 0 cap [] rfl rfl (fun j u h=>by simp at h) (fun u h=>by simp at h) (by unfold maxLen;omega) (by omega) (by simp) ?_)
 intro v' w1 hown hgrow hnil
 go_wp2
 go_ret
 have hown2:w1.ownsRow w.heap.size 62 2 v' (#[]:Array (ByteArray × Int)).size (flatK encA 2 #[]).toList:=by simpa [flatK] using hown
 obtain ⟨g,cap',rfl,hB,hg,hH,hcc⟩:=holds_own (d:=#[]) (enc:=encA) hnil hown2
 exact ⟨_,cap',rfl,Or.inr ⟨g,rfl,hB,hg,hH,by simpa using hcc⟩,by simp,((Below.refl _ w).alloc (Nat.le_refl _) _).grown hgrow (by simp) (by intro k hk;simp [Value.ownBlock] at hk;omega)⟩
/-- Clone, at every list. -/
theorem cloneA_any (p:Option Addr) (cap:Nat) (l:List (ByteArray × Int)) (w:World) (hl:l.length * 24<=140737488355328) (hp:p=none->l.length=0/\cap=0) (hA:AtsOf w p l) :
    Calls Tryz.prog 61 #[.slice p l.length cap] w fun e w'=>∃ q cap',e=.returned (.slice q l.length cap')/\NewA w.heap.size w' q cap' l/\(q=none ↔ p=none)/\Below w.heap.size w w':=by
  cases p with
  | none =>
    obtain ⟨h0,rfl⟩:=hp rfl
    obtain rfl:l=[]:=List.length_eq_zero_iff.1 h0
    refine (cloneA_nil w).mono fun e w' ⟨he,hw⟩=>?_
    subst hw
    exact ⟨none,0,he,Or.inl ⟨rfl,rfl,rfl⟩,by simp,Below.refl _ _⟩
  | some a =>
    by_cases h0:l.length=0
    · obtain rfl:l=[]:=List.length_eq_zero_iff.1 h0
      exact (cloneA_empty a cap w).mono fun e w' ⟨q,cap',he,hN,hq,hb⟩=>⟨q,cap',he,hN,by simp [hq],hb⟩
    · obtain ⟨b,off,hpe,_,hAt⟩:=hA (by omega)
      obtain rfl:a=⟨b,off,none⟩:=by simpa using hpe
      exact (cloneA_some b off cap l w hl hAt).mono fun e w' ⟨q,cap',he,hN,hq,hb⟩=>⟨q,cap',he,hN,by simp [hq],hb⟩
/-- New memory of the list l: q, behind B. -/
def NewP (B:Nat) (w:World) (q:Option Addr) (cap:Nat) (l:List (ByteArray × Int × Int × ByteArray)):Prop :=
  (q=none/\l=[]/\cap=0) ∨ ∃ g,q=some ⟨g,0,none⟩/\B<=g/\g < w.heap.size/\HoldsK encP 4 w g 0 l.toArray/\l.length<=cap/\cap<=maxLen
theorem PrsAt.of_holds {w:World} {g off:Nat} {l:List (ByteArray × Int × Int × ByteArray)} (h:HoldsK encP 4 w g off l.toArray):PrsAt w g off l:=fun j x hj=>by
 have hl:j < l.length:=(List.getElem?_eq_some_iff.1 hj).1
 have e:=get_bang hj
 have hc:=fun c (hc:c < 4)=>(h.cell (i:=j) (c:=c) (by simpa using hl) hc).1
 rw [e] at hc
 exact ⟨hc 0 (by omega),hc 1 (by omega),hc 2 (by omega),hc 3 (by omega)⟩
theorem PrsAt.flat {w:World} {b off:Nat} {l:List (ByteArray × Int × Int × ByteArray)} (h:PrsAt w b off l):∀ (j:Nat) (u:Value),(flatK encP 4 l.toArray).toList[j]? = some u->w.cell? ⟨b,off + j,none⟩=some u:=by
 intro j u hj
 rw [Array.getElem?_toList] at hj
 obtain ⟨hs,hu⟩:=Array.getElem?_eq_some_iff.1 hj
 have hlt:j < l.toArray.size * 4:=by simpa using hs
 have hg:=get_flatK encP 4 l.toArray j hlt
 rw [getElem!_pos _ j hs,hu] at hg
 have hq:j / 4 < l.length:=by simp at hlt;omega
 have hx:=h (j / 4) _ (bang_get hq)
 rw [hg]
 have hj2:j=j / 4 * 4 + j % 4:=by omega
 have hm:j % 4=0 ∨ j % 4=1 ∨ j % 4=2 ∨ j % 4=3:=by omega
 rcases hm with e | e | e | e
 ·rw [e];rw [e] at hj2
  have:off + j=off + j / 4 * 4:=by omega
  rw [this];exact hx.1
 ·rw [e];rw [e] at hj2
  have:off + j=off + j / 4 * 4 + 1:=by omega
  rw [this];exact hx.2.1
 ·rw [e];rw [e] at hj2
  have:off + j=off + j / 4 * 4 + 2:=by omega
  rw [this];exact hx.2.2.1
 ·rw [e];rw [e] at hj2
  have:off + j=off + j / 4 * 4 + 3:=by omega
  rw [this];exact hx.2.2.2
theorem NewP.of {B:Nat} {w:World} {q:Option Addr} {cap:Nat} {l:List (ByteArray × Int × Int × ByteArray)} (h:NewP B w q cap l):PrsOf w q l:=fun h0=>by
 rcases h with ⟨_,rfl,_⟩ | ⟨g,rfl,_,hg,hH,_,_⟩
 ·simp at h0
 ·exact ⟨g,0,rfl,hg,PrsAt.of_holds hH⟩
theorem NewP.below {B:Nat} {w w':World} {q:Option Addr} {cap:Nat} {l:List (ByteArray × Int × Int × ByteArray)} (h:NewP B w q cap l) (hb:Below w.heap.size w w'):NewP B w' q cap l:=by
 rcases h with h | ⟨g,rfl,hB,hg,hH,hc⟩
 ·exact Or.inl h
 ·exact Or.inr ⟨g,rfl,hB,Nat.lt_of_lt_of_le hg hb.size,fun t ht=>⟨(hb.cell (by exact hg)).trans (hH t ht).1,(hb.frozen (by exact hg)).trans (hH t ht).2⟩,hc⟩
theorem NewP.mono {B B':Nat} {w:World} {q:Option Addr} {cap:Nat} {l:List (ByteArray × Int × Int × ByteArray)} (h:NewP B w q cap l) (hb:B'<=B):NewP B' w q cap l:=by
 rcases h with h | ⟨g,rfl,hB,hr⟩
 ·exact Or.inl h
 ·exact Or.inr ⟨g,rfl,Nat.le_trans hb hB,hr⟩
end Go.Proofs.YtencibjmiphinaaGreatDoor.Sc

/- What schema.Get and the reference's Get return, for every list of pairs and every name: the same. -/
import Derived.Test.YtdgoibnndfibnaaGreatDoorSZae
import Derived.Shelf.SlLaysF0
import Derived.Shelf.SlicesE.Clone
import Derived.Shelf.SlicesQ.Contains
import Derived.Test.YtdgoibnndfibnaaGreatDoorProg
import Derived.Shelf.SlSortCmp.WholeK
namespace Go.Proofs.YtdgoibnndfibnaaGreatDoor.Sc
open Go.RowKit
/-- The block b holds one value, and may be written. -/
def Box (w:World) (b:Nat) (x:Int × Int × ByteArray):Prop :=
 w.cell? ⟨b,0,none⟩=some (.int .i64 x.1)/\w.cell? ⟨b,1,none⟩=some (.int .i64 x.2.1)/\w.cell? ⟨b,2,none⟩=some (.string x.2.2)/\(∀ o,w.frozen? ⟨b,o,none⟩=false)/\b < w.heap.size
theorem Box.belowAt {B:Nat} {w w':World} {b:Nat} {x:Int × Int × ByteArray} (h:Box w b x) (hb:Below B w w') (hB:b < B):Box w' b x:=by
 obtain ⟨h1,h2,h3,h4,h5⟩:=h
 exact ⟨(hb.cell (by exact hB)).trans h1,(hb.cell (by exact hB)).trans h2,(hb.cell (by exact hB)).trans h3,fun o=>(hb.frozen (by exact hB)).trans (h4 o),Nat.lt_of_lt_of_le h5 hb.size⟩
theorem Box.below {w w':World} {b:Nat} {x:Int × Int × ByteArray} (h:Box w b x) (hb:Below w.heap.size w w'):Box w' b x:=h.belowAt hb h.2.2.2.2
def put3 (w:World) (b:Nat) (y:Int × Int × ByteArray):World:=((w.setCell ⟨b,0,none⟩ (.int .i64 y.1)).setCell ⟨b,1,none⟩ (.int .i64 y.2.1)).setCell ⟨b,2,none⟩ (.string y.2.2)
theorem Box.put {w:World} {b:Nat} {x:Int × Int × ByteArray} (h:Box w b x) (y:Int × Int × ByteArray):Box (put3 w b y) b y:=by
 obtain ⟨h1,h2,h3,h4,h5⟩:=h
 unfold put3
 refine ⟨?_, ?_, ?_,fun o=>?_, ?_⟩
 ·go_simp
 ·go_simp
 ·go_simp
 ·go_simp
 ·simpa [World.setCell] using h5
theorem Box.new (w:World) (x:Int × Int × ByteArray) (t:TypeId):Box (w.alloc (.cells #[.int .i64 x.1,.int .i64 x.2.1,.string x.2.2] t)) w.heap.size x:=by
 refine ⟨?_, ?_, ?_,fun o=>?_,by simp⟩ <;> simp
theorem Box.alloc {w:World} {b:Nat} {x:Int × Int × ByteArray} (h:Box w b x) (o:Obj):Box (w.alloc o) b x:=h.below ((Below.refl _ _).alloc (Nat.le_refl _) _)
end Go.Proofs.YtdgoibnndfibnaaGreatDoor.Sc
namespace Go.Proofs
open Go.Shelf
def Tryz.cloneA_ren:Go.Shelf.Ren:=⟨fun | 41=>80 | n=>n,fun | 22=>26 | 23=>62 | 4=>4 | n=>n,fun | n=>n⟩
theorem Tryz.cloneA:Go.Proofs.SlLaysE0.n41 Tryz.prog Tryz.cloneA_ren:={
 mixed:=by kernel_rfl
 f41:=⟨Tryz.f80.name,by decide,Tryz.func80.trans (congrArg some (by kernel_rfl))⟩
 t4:=Tryz.underlying4
 a4:=Tryz.isAgg4
 z4:=Tryz.sizeOf4
 v4:=Tryz.zeroValue4
 t22:=Tryz.underlying26
 a22:=Tryz.isAgg26
 z22:=Tryz.sizeOf26
 v22:=Tryz.zeroValue26 }
def Tryz.sortA_ren:Go.Shelf.Ren:=⟨fun | 6=>81 | 15=>110 | 14=>109 | 28=>138 | 29=>139 | 20=>130 | 21=>131 | 22=>132 | 23=>133 | 24=>134 | 25=>135 | 26=>136 | 27=>137 | 46=>151 | 47=>152 | 48=>153 | 49=>154 | 50=>155 | 57=>167 | n=>n,fun | 22=>26 | 24=>62 | 25=>126 | 3=>3 | 39=>146 | 0=>0 | 53=>166 | 55=>113 | 4=>4 | 46=>160 | 45=>159 | 50=>155 | 5=>5 | 9=>9 | 66=>172 | 70=>176 | 76=>192 | 77=>193 | n=>n,fun | n=>n⟩
theorem Tryz.sortA:Go.Proofs.SlLaysF0.n6 Tryz.prog Tryz.sortA_ren:={
 mixed:=by kernel_rfl
 f6:=⟨Tryz.f81.name,by decide,Tryz.func81.trans (congrArg some (by kernel_rfl))⟩
 f14:=⟨Tryz.f109.name,by decide,Tryz.func109.trans (congrArg some (by kernel_rfl))⟩
 f15:=Tryz.func110.trans (congrArg some (by kernel_rfl))
 f20:=⟨Tryz.f130.name,by decide,Tryz.func130.trans (congrArg some (by kernel_rfl))⟩
 f21:=⟨Tryz.f131.name,by decide,Tryz.func131.trans (congrArg some (by kernel_rfl))⟩
 f22:=⟨Tryz.f132.name,by decide,Tryz.func132.trans (congrArg some (by kernel_rfl))⟩
 f23:=⟨Tryz.f133.name,by decide,Tryz.func133.trans (congrArg some (by kernel_rfl))⟩
 f24:=⟨Tryz.f134.name,by decide,Tryz.func134.trans (congrArg some (by kernel_rfl))⟩
 f25:=⟨Tryz.f135.name,by decide,Tryz.func135.trans (congrArg some (by kernel_rfl))⟩
 f26:=⟨Tryz.f136.name,by decide,Tryz.func136.trans (congrArg some (by kernel_rfl))⟩
 f27:=⟨Tryz.f137.name,by decide,Tryz.func137.trans (congrArg some (by kernel_rfl))⟩
 f28:=Tryz.func138.trans (congrArg some (by kernel_rfl))
 f29:=Tryz.func139.trans (congrArg some (by kernel_rfl))
 f46:=⟨Tryz.f151.name,by decide,Tryz.func151.trans (congrArg some (by kernel_rfl))⟩
 f47:=Tryz.func152.trans (congrArg some (by kernel_rfl))
 f48:=Tryz.func153.trans (congrArg some (by kernel_rfl))
 f49:=⟨Tryz.f154.name,by decide,Tryz.func154.trans (congrArg some (by kernel_rfl))⟩
 f50:=⟨Tryz.f155.name,by decide,Tryz.func155.trans (congrArg some (by kernel_rfl))⟩
 f57:=⟨Tryz.f167.name,by decide,Tryz.func167.trans (congrArg some (by kernel_rfl))⟩
 t0:=Tryz.underlying0
 a0:=Tryz.isAgg0
 z0:=Tryz.sizeOf0
 v0:=Tryz.zeroValue0
 t3:=Tryz.underlying3
 a3:=Tryz.isAgg3
 z3:=Tryz.sizeOf3
 v3:=Tryz.zeroValue3
 t4:=Tryz.underlying4
 a4:=Tryz.isAgg4
 z4:=Tryz.sizeOf4
 v4:=Tryz.zeroValue4
 t5:=Tryz.underlying5
 a5:=Tryz.isAgg5
 z5:=Tryz.sizeOf5
 v5:=Tryz.zeroValue5
 t9:=Tryz.underlying9
 a9:=Tryz.isAgg9
 z9:=Tryz.sizeOf9
 v9:=Tryz.zeroValue9
 t22:=Tryz.underlying26
 a22:=Tryz.isAgg26
 z22:=Tryz.sizeOf26
 v22:=Tryz.zeroValue26
 t25:=Tryz.underlying126
 a25:=Tryz.isAgg126
 z25:=Tryz.sizeOf126
 v25:=Tryz.zeroValue126
 t39:=Tryz.underlying146
 a39:=Tryz.isAgg146
 z39:=Tryz.sizeOf146
 v39:=Tryz.zeroValue146
 t45:=Tryz.underlying159
 a45:=Tryz.isAgg159
 z45:=Tryz.sizeOf159
 v45:=Tryz.zeroValue159
 t46:=Tryz.underlying160
 a46:=Tryz.isAgg160
 z46:=Tryz.sizeOf160
 v46:=Tryz.zeroValue160
 t50:=Tryz.underlying155
 a50:=Tryz.isAgg155
 z50:=Tryz.sizeOf155
 v50:=Tryz.zeroValue155
 t53:=Tryz.underlying166
 a53:=Tryz.isAgg166
 z53:=Tryz.sizeOf166
 v53:=Tryz.zeroValue166
 t55:=Tryz.underlying113
 a55:=Tryz.isAgg113
 z55:=Tryz.sizeOf113
 v55:=Tryz.zeroValue113
 t66:=Tryz.underlying172
 a66:=Tryz.isAgg172
 z66:=Tryz.sizeOf172
 v66:=Tryz.zeroValue172
 t70:=Tryz.underlying176
 a70:=Tryz.isAgg176
 z70:=Tryz.sizeOf176
 v70:=Tryz.zeroValue176
 t76:=Tryz.underlying192
 a76:=Tryz.isAgg192
 z76:=Tryz.sizeOf192
 v76:=Tryz.zeroValue192
 t77:=Tryz.underlying193
 a77:=Tryz.isAgg193
 z77:=Tryz.sizeOf193
 v77:=Tryz.zeroValue193 }
end Go.Proofs
namespace Go.Proofs.YtdgoibnndfibnaaGreatDoor.Sc
open Go.RowKit Go.Sort Go.Shelf
def encA (x:ByteArray × Int):List Value:=[.string x.1,.int .i64 x.2]
def encP (x:ByteArray × Int × Int × ByteArray):List Value:=[.string x.1,.int .i64 x.2.1,.int .i64 x.2.2.1,.string x.2.2.2]
def cfA (x y:ByteArray × Int):Int:=cmpS x.1.toList y.1.toList
theorem attrName_any (x:ByteArray × Int) (w:World) :
  Calls Tryz.prog 54 #[.agg #[.string x.1,.int .i64 x.2]] w fun e w'=>e=.returned (.string x.1)/\∃ q os',w'=grow (w.drewN q) os':=by
 go_enter Tryz.func54,Tryz.ntmps54
 go_wp2
 go_ret
 exact ⟨rfl,0,_,by rw [alloc_eq_grow];rfl⟩
theorem compare_any (a b:ByteArray) (w:World) :
  Calls Tryz.prog 83 #[.string a,.string b] w fun e w'=>e=.returned (.int .i64 (cmpS a.toList b.toList))/\∃ q os',w'=grow (w.drewN q) os' :=
 (cmpStr_any a b w).mono fun _ _ ⟨he,hw⟩=>⟨he,0,#[],by rw [hw,grow_empty];rfl⟩
set_option maxHeartbeats 1000000 in
theorem closureA (x y:ByteArray × Int) (c:Nat) (W:World) (hc:W.cell? ⟨c,0,none⟩=some (.func (.func 54) #[] #[])) (hb:c < W.heap.size) :
  Calls Tryz.prog 82 #[.agg #[.string x.1,.int .i64 x.2],.agg #[.string y.1,.int .i64 y.2],.pointer (some ⟨c,0,none⟩)] W fun e w'=>e=.returned (.int .i64 (cfA x y))/\∃ q os',w'=grow (W.drewN q) os':=by
 have mixed:Tryz.prog.follows .mixedOrders=true:=by kernel_rfl
 have e30:∀ args w,(callFunc 54 args).run Tryz.prog w=.ok (.enter 54 args) w:=enters_of Tryz.func54 (by kernel_rfl) rfl
 have e42:∀ args w,(callFunc 83 args).run Tryz.prog w=.ok (.enter 83 args) w:=enters_of Tryz.func83 (by kernel_rfl) rfl
 obtain ⟨w0,hw0⟩:∃ w0,w0=(W.alloc (.cells #[.string x.1,.int .i64 x.2] 62)).alloc (.cells #[.string y.1,.int .i64 y.2] 62):=⟨_,rfl⟩
 have c0:∀ n os,(grow (w0.drewN n) os).cell? ⟨c,0,none⟩=some (.func (.func 54) #[] #[]):=cell_grown (by simp [hw0];omega) (by subst hw0;go_simp)
 have x0:∀ n os,(grow (w0.drewN n) os).cell? ⟨W.heap.size,0,none⟩=some (.string x.1):=cell_grown (by simp [hw0];omega) (by subst hw0;go_simp)
 have x1:∀ n os,(grow (w0.drewN n) os).cell? ⟨W.heap.size,1,none⟩=some (.int .i64 x.2):=cell_grown (by simp [hw0];omega) (by subst hw0;go_simp)
 have y0:∀ n os,(grow (w0.drewN n) os).cell? ⟨W.heap.size + 1,0,none⟩=some (.string y.1):=cell_grown (by simp [hw0]) (by subst hw0;go_simp)
 have y1:∀ n os,(grow (w0.drewN n) os).cell? ⟨W.heap.size + 1,1,none⟩=some (.int .i64 y.2):=cell_grown (by simp [hw0]) (by subst hw0;go_simp)
 have Hw0:=hide hw0
 go_enter Tryz.func82,Tryz.ntmps82
 go_wp2
 rw [<- hw0]
 clear hw0
 go_quiet_grown (first
  | (go_at_fn 54;refine Calls.grown_of (attrName_any _ _))
  | (go_at_fn 83;refine Calls.grown_of (compare_any _ _ _)))
 go_wp2
 go_ret
 refine ⟨rfl, ?_⟩
 rw [uh Hw0,alloc_eq_grow,alloc_eq_grow,grow_grow]
 exact ⟨_,_,by rw [show (grow W _).drewN nq=grow (W.drewN nq) _ from rfl,grow_grow]⟩
theorem cmp_lays_cell {α:Type} [Inhabited α] {enc:α->List Value} {k blk off m c:Nat} {dk:Array α} {os:Array Obj} {w:World} {v:Value} (hc:w.cell? ⟨c,0,none⟩=some v) (hb:c < w.heap.size) (hne:c ≠ blk) :
  (sortWorldK enc k w blk off m dk os).cell? ⟨c,0,none⟩=some v/\c < (sortWorldK enc k w blk off m dk os).heap.size:=by
 have hz:(putRowK enc k (Sort.ahead w m) blk off dk).heap.size=w.heap.size:=by
  unfold putRowK;simp
 unfold sortWorldK
 refine ⟨?_, ?_⟩
 ·rw [cell?_grow _ _ _ (by rw [hz];exact hb),cell?_putRowK_other _ _ _ _ _ _ _ (by exact hne)]
  exact hc
 ·simp [grow,hz];omega
theorem lt_cf {a b:List UInt8}:decide (cmpS a b < 0)=Op.bytesLess a b:=by
 rcases cmpS_cases a b with ⟨h1,h2⟩ | ⟨h1,h2⟩ | ⟨h1,h2⟩
 ·rw [h1,h2];decide
 ·rw [h2,h1,less_irrefl];decide
 ·rw [h2,less_asymm _ _ h1];decide
theorem not_less_trans {a b c:List UInt8} (h1:Op.bytesLess a b=false) (h2:Op.bytesLess b c=false):Op.bytesLess a c=false:=by
 cases h:Op.bytesLess a c with
 | false=>rfl
 | true =>
  by_cases e:a=b
  ·rw [e,h2] at h;cases h
  ·have:=less_total _ _ h1 e
   rw [less_trans _ _ _ this h] at h2;cases h2
theorem swoA:SWO (ltOf cfA) where
 irrefl x:=by unfold ltOf cfA;rw [lt_cf];exact less_irrefl _
 trans x y z h1 h2:=by unfold ltOf cfA at *;rw [lt_cf] at *;exact less_trans _ _ _ h1 h2
 ntrans x y z h1 h2:=by unfold ltOf cfA at *;rw [lt_cf] at *;exact not_less_trans h1 h2
theorem cmpLaysA (c blk off size:Nat) (w:World) (hc:w.cell? ⟨c,0,none⟩=some (.func (.func 54) #[] #[])) (hb:c < w.heap.size) (hne:c ≠ blk):CmpLays Tryz.prog 82 #[.pointer (some ⟨c,0,none⟩)] encA 2 cfA blk off size w :=
 fun _ _ _ _ x y=>closureA x y c _ (cmp_lays_cell hc hb hne).1 (cmp_lays_cell hc hb hne).2
end Go.Proofs.YtdgoibnndfibnaaGreatDoor.Sc

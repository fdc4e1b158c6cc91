/- The document's SameOp. -/
import Derived.Test.YtdgoibnndfibnaaGreatDoorAS28
import Derived.Shelf.Strings.OnBuilder
namespace Go.Proofs.YtdgoibnndfibnaaGreatDoor
open Go.RowKit Go.Sort
end Go.Proofs.YtdgoibnndfibnaaGreatDoor
namespace Go.Proofs
open Go.Shelf
def Tryz.lays156_ren:Go.Shelf.Ren:=⟨fun | 156=>28 | 165=>57 | 166=>58 | 169=>59 | 240=>85 | 241=>86 | 276=>113 | 277=>114 | n=>n,fun | 0=>0 | 3=>3 | 4=>4 | 9=>9 | 20=>20 | 31=>60 | 37=>67 | 70=>98 | 72=>100 | 75=>103 | 76=>104 | 80=>106 | 127=>127 | 164=>147 | 5=>5 | n=>n,fun | n=>n⟩
theorem Tryz.lays156:Go.Proofs.Lays.n156 Tryz.prog Tryz.lays156_ren:={
 mixed:=by kernel_rfl
 f156:=Tryz.func28.trans (congrArg some (by kernel_rfl))
 f165:=Tryz.func57.trans (congrArg some (by kernel_rfl))
 f166:=Tryz.func58.trans (congrArg some (by kernel_rfl))
 f169:=Tryz.func59.trans (congrArg some (by kernel_rfl))
 f240:=Tryz.func85.trans (congrArg some (by kernel_rfl))
 f241:=Tryz.func86.trans (congrArg some (by kernel_rfl))
 f276:=Tryz.func113.trans (congrArg some (by kernel_rfl))
 f277:=Tryz.func114.trans (congrArg some (by kernel_rfl))
 t0:=Tryz.underlying0
 a0:=Tryz.isAgg0
 z0:=Tryz.sizeOf0
 v0:=Tryz.zeroValue0
 t3:=Tryz.underlying3
 a3:=Tryz.isAgg3
 z3:=Tryz.sizeOf3
 v3:=Tryz.zeroValue3
 t4:=Tryz.underlying4
 a4:=Tryz.isAgg4
 z4:=Tryz.sizeOf4
 v4:=Tryz.zeroValue4
 t9:=Tryz.underlying9
 a9:=Tryz.isAgg9
 z9:=Tryz.sizeOf9
 v9:=Tryz.zeroValue9
 t20:=Tryz.underlying20
 a20:=Tryz.isAgg20
 z20:=Tryz.sizeOf20
 v20:=Tryz.zeroValue20
 t31:=Tryz.underlying60
 a31:=Tryz.isAgg60
 z31:=Tryz.sizeOf60
 v31:=Tryz.zeroValue60
 t37:=Tryz.underlying67
 a37:=Tryz.isAgg67
 z37:=Tryz.sizeOf67
 v37:=Tryz.zeroValue67
 t70:=Tryz.underlying98
 a70:=Tryz.isAgg98
 z70:=Tryz.sizeOf98
 v70:=Tryz.zeroValue98
 t72:=Tryz.underlying100
 a72:=Tryz.isAgg100
 z72:=Tryz.sizeOf100
 v72:=Tryz.zeroValue100
 t75:=Tryz.underlying103
 a75:=Tryz.isAgg103
 z75:=Tryz.sizeOf103
 v75:=Tryz.zeroValue103
 t76:=Tryz.underlying104
 a76:=Tryz.isAgg104
 z76:=Tryz.sizeOf104
 v76:=Tryz.zeroValue104
 t127:=Tryz.underlying127
 a127:=Tryz.isAgg127
 z127:=Tryz.sizeOf127
 v127:=Tryz.zeroValue127
 t164:=Tryz.underlying147
 a164:=Tryz.isAgg147
 z164:=Tryz.sizeOf147
 v164:=Tryz.zeroValue147 }
theorem Tryz.Builder_Extra_156:Builder.Extra Tryz.prog Tryz.lays156_ren:={
 sizeBuilder:=by kernel_rfl
 liesBuilder:=by kernel_rfl
 t5:=Tryz.underlying5
 a5:=Tryz.isAgg5
 z5:=Tryz.sizeOf5
 v5:=Tryz.zeroValue5
 infoByte:=by kernel_rfl
 cellsByte:=by kernel_rfl
 sizeByte:=by kernel_rfl
 neB5:=by decide }
end Go.Proofs
namespace Go.Proofs.YtdgoibnndfibnaaGreatDoor
open Go.RowKit Go.Sort
/-- strings.Join of a list that holds one string at least. -/
theorem join_any (q:Option Addr) (c:Nat) (xs:List ByteArray) (sep:ByteArray) (w:World) (h:SlOf encS 1 w q c xs) (h1:1<=xs.length) (hlen:(Lib.join (xs.map (·.data.toList)) sep.data.toList).length<=140737488355328) (hn:xs.length<=140737488355328) :
  Calls Tryz.prog 28 #[.slice q xs.length c,.string sep] w fun e w'=>e=.returned (.string ⟨(Lib.join (xs.map (·.data.toList)) sep.data.toList).toArray⟩)/\Below w.heap.size w w':=by
 obtain ⟨b,off,hq,hb,hc⟩:=h.2.2.2 (by omega)
 have hcell:∀ (j:Nat) x,xs[j]? = some x->w.cell? ⟨b,off + j,none⟩=some (.string x):=fun j x hj=>by
  have:=hc (j * 1 + 0) _ (flat_at (enc:=encS) (k:=1) hj 0 (by decide))
  simpa [encS] using this
 subst hq
 by_cases h2:2<=xs.length
 ·exact Any.strings_Join_many Tryz.lays156 Tryz.Builder_Extra_156 b off c xs sep w hcell hb h2 hn h.2.1 hlen
 ·match xs,h1,h2 with
  | [x],_,_ =>
   refine (Any.strings_Join_one Tryz.lays156 Tryz.Builder_Extra_156 b off c x sep w (hcell 0 x rfl)).mono ?_
   rintro e w' ⟨rfl,rfl⟩
   exact ⟨by simp [Lib.join],Below.refl _ _⟩
  | x :: y :: r,_,h2=>exact absurd (by simp) h2
end Go.Proofs.YtdgoibnndfibnaaGreatDoor

/- What schema.Get, slices.Contains and strings.HasPrefix return, at these programs' types. -/
import Derived.Test.YtikhopiegaoacabOZab
namespace Go.Proofs.Ytikhopiegaoacab
open Go.RowKit Go.Sort

structure Pr where
 name:ByteArray
 kind:Int
 int:Int
 word:ByteArray
instance:Inhabited Pr:=⟨⟨⟨#[]⟩,0,0,⟨#[]⟩⟩⟩
/-- The block b holds one value, and may be written. -/
def Box (w:World) (b:Nat) (x:Int × Int × ByteArray):Prop :=
 w.cell? ⟨b,0,none⟩=some (.int .i64 x.1)∧w.cell? ⟨b,1,none⟩=some (.int .i64 x.2.1)∧w.cell? ⟨b,2,none⟩=some (.string x.2.2)∧(∀ o,w.frozen? ⟨b,o,none⟩=false)∧b < w.heap.size
theorem Box.below {w w':World} {b:Nat} {x:Int × Int × ByteArray} (h:Box w b x) (hb:Below w.heap.size w w'):Box w' b x:=by
 obtain ⟨h1,h2,h3,h4,h5⟩:=h
 exact ⟨(hb.cell (by exact h5)).trans h1,(hb.cell (by exact h5)).trans h2,(hb.cell (by exact h5)).trans h3,fun o=>(hb.frozen (by exact h5)).trans (h4 o),Nat.lt_of_lt_of_le h5 hb.size⟩
def put3 (w:World) (b:Nat) (y:Int × Int × ByteArray):World:=((w.setCell ⟨b,0,none⟩ (.int .i64 y.1)).setCell ⟨b,1,none⟩ (.int .i64 y.2.1)).setCell ⟨b,2,none⟩ (.string y.2.2)
theorem Box.put {w:World} {b:Nat} {x:Int × Int × ByteArray} (h:Box w b x) (y:Int × Int × ByteArray):Box (put3 w b y) b y:=by
 obtain ⟨h1,h2,h3,h4,h5⟩:=h
 unfold put3
 refine ⟨?_, ?_, ?_,fun o=>?_, ?_⟩
 ·go_simp
 ·go_simp
 ·go_simp
 ·go_simp
 ·simpa [World.setCell] using h5
theorem Box.new (w:World) (x:Int × Int × ByteArray) (t:TypeId):Box (w.alloc (.cells #[.int .i64 x.1,.int .i64 x.2.1,.string x.2.2] t)) w.heap.size x:=by
 refine ⟨?_, ?_, ?_,fun o=>?_,by simp⟩ <;> simp
theorem Box.alloc {w:World} {b:Nat} {x:Int × Int × ByteArray} (h:Box w b x) (o:Obj):Box (w.alloc o) b x:=h.below ((Below.refl _ _).alloc (Nat.le_refl _) _)

end Go.Proofs.Ytikhopiegaoacab

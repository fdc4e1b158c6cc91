/- What the helper that compares trees returns, of any two. -/
import Derived.Test.YtkpdhkdegoincaaSamePred
import Derived.Lib.QuietBelow
import Derived.BigQuiet
import Derived.Shelf.Abstract
namespace Go.Proofs.Ytkpdhkdegoincaa
open Go.RowKit Go.Sort

/-- Lists no longer than any memory holds. -/
inductive OkN : Nd → Prop
  | mk {kind : Int} {attr : ByteArray} {ints : List Int} {words : List ByteArray} {lo hi op : Int} {kids : List Nd} : ints.length ≤ 100000000000000 → words.length ≤ 100000000000000 → kids.length ≤ 100000000000000 → (∀ x ∈ kids, OkN x) → OkN (.mk kind attr ints words lo hi op kids)
theorem OkN.of_wt : ∀ (t : Nd), wtN t ≤ 1000000000 → OkN t := by
  intro t
  induction t using Nd.ind with
  | h kind attr ints words lo hi op kids ih =>
    intro h
    simp only [wtN] at h
    have h1 := words_len words
    have h2 := len_size kids
    have h3 := sizeL_wt kids
    exact .mk (by omega) (by omega) (by omega) fun x hx => ih x hx (by have := wtL_mem hx; omega)
theorem sameT_mk (k1 a1 i1 w1 l1 h1 o1 ks1 k2 a2 i2 w2 l2 h2 o2 ks2) : sameT (Nd.mk k1 a1 i1 w1 l1 h1 o1 ks1) (Nd.mk k2 a2 i2 w2 l2 h2 o2 ks2) = (decide (o1 = o2) && (sameQ k1 a1 i1 w1 l1 h1 k2 a2 i2 w2 l2 h2 && sameL ks1 ks2)) := by
  rw [Bool.eq_iff_iff, sameT_iff]
  simp only [Bool.and_eq_true, decide_eq_true_eq, sameQ, sameL, Nd.mk.injEq]
  constructor
  · rintro ⟨rfl, rfl, rfl, rfl, rfl, rfl, rfl, rfl⟩; simp
  · rintro ⟨rfl, ⟨rfl, rfl, rfl, rfl, rfl, rfl⟩, rfl⟩; simp
end Go.Proofs.Ytkpdhkdegoincaa

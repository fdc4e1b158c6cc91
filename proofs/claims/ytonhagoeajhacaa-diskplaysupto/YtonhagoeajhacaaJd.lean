/- The reference's disk: mod; what a crash leaves of a list of files, plain. -/
import Derived.Test.YtonhagoeajhacaaR8
import Derived.Test.YtonhagoeajhacaaCrash
import Derived.Deep.RegionLaw
namespace Go.Proofs.Ytonhagoeajhacaa
open Go.RowKit Go.Sort Go.Shelf

theorem rmod_any (n : Int) (m : Nat) (hm : 0 < m) (hm2 : m ≤ 200000000000000) (w : World) :
    Calls Try.prog 43 #[.int .i64 n, .int .i64 (m : Int)] w fun e w' => e = .returned (.int .i64 ((modZ n m : Nat) : Int)) ∧ w' = w := by
  have m0 : ¬ (m : Int) = 0 := by omega
  have m0' : ((m : Int) == 0) = false := by simp; omega
  have hlo := Int.lt_tmod_of_pos n (show (0 : Int) < (m : Int) by omega)
  have hhi : Int.tmod n (m : Int) < (m : Int) := Int.tmod_lt_of_pos n (by omega)
  have e2 : IntKind.i64.wrap (Int.tmod n (m : Int)) = Int.tmod n (m : Int) := wrap_int _ (by omega) (by omega)
  have e3 : IntKind.i64.wrap (Int.tmod n (m : Int) + (m : Int)) = Int.tmod n (m : Int) + (m : Int) := wrap_int _ (by omega) (by omega)
  have hz : n % (m : Int) = ((modZ n m : Nat) : Int) := by
    unfold modZ
    rw [Int.toNat_of_nonneg (Int.emod_nonneg _ m0)]
  have hmod : n % (m : Int) = (n.tmod (m : Int)) % (m : Int) := by
    have h3 := Int.tmod_add_mul_tdiv n (m : Int)
    conv => lhs; rw [← h3]
    rw [Int.add_mul_emod_self_left]
  by_cases hneg : n.tmod (m : Int) < 0
  · have he : n.tmod (m : Int) + (m : Int) = ((modZ n m : Nat) : Int) := by
      rw [← hz, hmod, ← Int.add_emod_right, Int.emod_eq_of_lt (by omega) (by omega)]
    have HE := hide he
    clear he hz hmod
    go_enter Try.func43, Try.ntmps43
    go_wp2
    go_ret
    exact ⟨ret_int (unhide HE), rfl⟩
  · have he : n.tmod (m : Int) = ((modZ n m : Nat) : Int) := by
      rw [← hz, hmod, Int.emod_eq_of_lt (by omega) (by omega)]
    have HE := hide he
    clear he hz hmod
    go_enter Try.func43, Try.ntmps43
    go_wp2
    go_ret
    exact ⟨ret_int (unhide HE), rfl⟩
end Go.Proofs.Ytonhagoeajhacaa
namespace Go.Proofs.Ytonhagoeajhacaa
open Go.RowKit Go.Sort Go.Shelf

def flOf (x : Rf) : Fl := ⟨x.bs, x.la⟩
def CrF (fs : List Rf) (cs : List Int) (L : List Rf) (k : Nat) : Prop := L.length = k ∧ ∀ (j : Nat) (x y : Rf), fs[j]? = some x → L[j]? = some y → y.nm = x.nm ∧ flOf y = foundF (flOf x) (chAt cs j)
theorem CrF.snoc {fs : List Rf} {cs : List Int} {L : List Rf} {k : Nat} (h : CrF fs cs L k) {x y : Rf} (hx : fs[k]? = some x) (hn : y.nm = x.nm) (hf : flOf y = foundF (flOf x) (chAt cs k)) : CrF fs cs (L ++ [y]) (k + 1) := by
  obtain ⟨h1, h2⟩ := h
  refine ⟨by simp [h1], fun j x' y' hx' hy' => ?_⟩
  by_cases hj : j < L.length
  · rw [List.getElem?_append_left hj] at hy'; exact h2 j x' y' hx' hy'
  · rw [List.getElem?_append_right (by omega)] at hy'
    have hlt := (List.getElem?_eq_some_iff.1 hy').1
    simp at hlt
    obtain rfl : j = k := by omega
    rw [hx] at hx'; cases hx'
    rw [show j - L.length = 0 by omega] at hy'
    simp at hy'
    rw [← hy']; exact ⟨hn, hf⟩
/-- A row's block and its type. -/
theorem own_type {α : Type} [Inhabited α] {enc : α → List Value} {e : TypeId} {k B : Nat} {w : World} {q : Option Addr} {cap : Nat} {l : List α} (h : OwnK enc e k B w q cap l) {p : Addr} (hp : q = some p) : B ≤ p.block ∧ ∃ cur, w.heap[p.block]? = some (.cells cur e (0, 0)) := by
  subst hp
  rcases h.2 with ⟨h0, _⟩ | ⟨g, cp, cur, hv, hB, hblk, hr⟩
  · injection h0 with h0; cases h0
  · injection hv with h1
    injection h1 with h1
    subst h1
    exact ⟨hB, cur, hblk⟩
theorem own_keep {α : Type} [Inhabited α] {enc : α → List Value} {e : TypeId} {k B : Nat} {w w' : World} {q : Option Addr} {cap : Nat} {l : List α} {r : Option Nat} (h : OwnK enc e k B w q cap l) (hg : w.grownBy w' r) (hne : ∀ p, q = some p → some p.block ≠ r) : OwnK enc e k B w' q cap l := by
  refine ⟨h.1, ?_⟩
  rcases h.2 with h0 | ⟨g, cp, cur, hv, hB, hblk, hr⟩
  · exact Or.inl h0
  · refine Or.inr ⟨g, cp, cur, hv, hB, (hg.block g (Array.getElem?_eq_some_iff.1 hblk).1 ?_).trans hblk, hr⟩
    injection hv with h1
    exact hne _ h1
/-- The state of the loop. -/
structure CrI (w2 : World) (o : Nat) (fs : List Rf) (cs : List Int) (k : Nat) (wr : World) (q2 : Option Addr) (cap : Nat) (L : List Rf) : Prop where
  cr : CrF fs cs L k
  box : wr.heap[o]? = some (.cells #[.slice q2 k cap, .int .i64 0, .bool false, .int .i64 0, .int .i64 0] 29 (0, 0))
  row : OwnK encF 74 3 (o + 1) wr q2 cap L
  file : ∀ y ∈ L, OwnK encB 5 1 (o + 1) wr y.p y.c y.bs
  grown : w2.grownBy wr (some o)
theorem ownBlock_of (q : Option Addr) (n c : Nat) : ∀ r, (Value.slice q n c).ownBlock = some r → ∃ p, q = some p ∧ p.block = r := by
  intro r h
  cases q with
  | none => cases h
  | some p => exact ⟨p, rfl, by simpa [Value.ownBlock] using h⟩
theorem CrI.step {w2 wr w4 w5 : World} {o k : Nat} {fs : List Rf} {cs : List Int} {q2 q5 : Option Addr} {cap c5 : Nat} {L : List Rf} {x y : Rf} (h : CrI w2 o fs cs k wr q2 cap L) (b4 : Below wr.heap.size wr w4) (o4 : OwnK encB 5 1 wr.heap.size w4 y.p y.c y.bs) (hx : fs[k]? = some x) (hn : y.nm = x.nm) (hf : flOf y = foundF (flOf x) (chAt cs k)) (ho : o < wr.heap.size) (hw2 : w2.heap.size ≤ o + 1)
    (o5 : OwnK encF 74 3 (o + 1) w5 q5 c5 (L ++ [y])) (g5 : w4.grownBy w5 (Value.slice q2 k cap).ownBlock) : CrI w2 o fs cs (k + 1) (w5.setCell ⟨o, 0, none⟩ (.slice q5 (k + 1) c5)) q5 c5 (L ++ [y]) := by
  have row4 := h.row.below b4
  have gs := grown_set w5 o 0 (.slice q5 (k + 1) c5)
  have hoff : some o ≠ (Value.slice q2 k cap).ownBlock := fun e => by
    obtain ⟨p, hp, hb⟩ := ownBlock_of q2 k cap o e.symm
    have := (own_type h.row hp).1
    omega
  have box4 := (b4.block o ho).trans h.box
  have box5 := (g5.block o (Nat.lt_of_lt_of_le ho b4.size) hoff).trans box4
  have keepB : ∀ z : Rf, OwnK encB 5 1 (o + 1) w4 z.p z.c z.bs → OwnK encB 5 1 (o + 1) (w5.setCell ⟨o, 0, none⟩ (.slice q5 (k + 1) c5)) z.p z.c z.bs := fun z hz => by
    have z5 := own_keep hz g5 (fun p hp e => by
      obtain ⟨p2, hp2, hb2⟩ := ownBlock_of q2 k cap _ e.symm
      obtain ⟨cu, hcu⟩ := (own_type hz hp).2
      obtain ⟨cu2, hcu2⟩ := (own_type row4 hp2).2
      rw [hb2, hcu] at hcu2
      injection hcu2 with hcu2
      injection hcu2 with _ hcu2
      cases hcu2)
    exact own_keep z5 gs (fun p hp e => by injection e with e; have := (own_type z5 hp).1; omega)
  refine ⟨h.cr.snoc hx hn hf, ?_, own_keep o5 gs (fun p hp e => by injection e with e; have := (own_type o5 hp).1; omega), fun z hz => ?_, ?_⟩
  · exact heap_setCell_same w5 o 0 _ 29 (.slice q5 (k + 1) c5) box5
  · rw [List.mem_append, List.mem_singleton] at hz
    rcases hz with hz | rfl
    · exact keepB z ((h.file z hz).below b4)
    · exact keepB z (o4.mono (by omega))
  · have gr := h.grown
    refine ⟨gs.os.trans (g5.os.trans (b4.os.trans gr.os)), gs.tape.trans (g5.tape.trans (b4.tape.trans gr.tape)), gs.output.trans (g5.output.trans (b4.output.trans gr.output)), Nat.le_trans gr.size (Nat.le_trans b4.size (Nat.le_trans g5.size gs.size)), fun i hi hne => ?_⟩
    have h1 : i < wr.heap.size := Nat.lt_of_lt_of_le hi gr.size
    have h2 : i < w4.heap.size := Nat.lt_of_lt_of_le h1 b4.size
    by_cases hq : some i = (Value.slice q2 k cap).ownBlock
    · exfalso
      obtain ⟨p, hp, hb⟩ := ownBlock_of q2 k cap i hq.symm
      have := (own_type h.row hp).1
      omega
    · exact (gs.block i (Nat.lt_of_lt_of_le h2 g5.size) hne).trans ((g5.block i h2 hq).trans ((b4.block i h1).trans (gr.block i hi hne)))
end Go.Proofs.Ytonhagoeajhacaa

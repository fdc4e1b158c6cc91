/- The law's helper fixed (layer 6) returns true. -/
import Derived.Test.YtkpdhkdegoincaaEvWhich
namespace Go.Proofs.Ytkpdhkdegoincaa
open Go.RowKit Go.Sort

def evF : List Pr := [⟨⟨#[97]⟩, 1, 5, ⟨#[]⟩⟩, ⟨⟨#[99]⟩, 2, 0, ⟨#[97, 98]⟩⟩]
def T5 : Nd := .mk 1 ⟨#[97]⟩ [1, 5] [] 0 0 1 []
def T0 : Nd := .mk 3 ⟨#[97]⟩ [] [] 9 5 1 []
theorem ev5 : evalN evF T5 = true := by kernel_rfl
theorem ev0 : evalN evF T0 = false := by kernel_rfl
theorem hld : holdsB 4 ⟨#[99]⟩ [] [⟨#[97]⟩] 0 0 evF = true := by kernel_rfl
theorem flF : (flatK encP 4 evF.toArray).toList = [.string ⟨#[97]⟩, .int .i64 1, .int .i64 5, .string ⟨#[]⟩, .string ⟨#[99]⟩, .int .i64 2, .int .i64 0, .string ⟨#[97, 98]⟩] := by kernel_rfl
theorem whF : whc evF 0 [T5, T0, notT T0] = [0, 2] := by kernel_rfl
theorem flI : (flatK encI 1 ([1, 5] : List Int).toArray).toList = [.int .i64 1, .int .i64 5] := by kernel_rfl
theorem flS : (flatK encS 1 ([⟨#[97]⟩] : List ByteArray).toArray).toList = [.string ⟨#[97]⟩] := by kernel_rfl
theorem block_of {α : Type} [Inhabited α] {enc : α → List Value} {k : Nat} {w : World} {M : Nat} {cs : Array Value} {T : TypeId} {l : List α} (h : w.heap[M]? = some (.cells cs T (0, 0))) (hf : (flatK enc k l.toArray).toList = cs.toList) (hl : l.length ≤ 1000) : SlOf enc k w (some ⟨M, 0, none⟩) l.length l :=
  ⟨(fun h => by cases h), Nat.le_refl _, by unfold maxLen; omega, fun _ => ⟨M, 0, rfl, heap_lt h, fun j u hj => by rw [Nat.zero_add, Lib.cell_of_heap h]; rw [hf, Array.getElem?_toList] at hj; exact hj⟩⟩
theorem flV1 (a : Nv) : (flatK encV 8 [a].toArray).toList = encV a := by
  apply List.ext_getElem?
  intro i
  by_cases hi : i < 8
  · have h := flat_at8 [a] 0 a rfl i hi
    rw [Nat.zero_mul, Nat.zero_add] at h
    rw [h]
    have hm : i = 0 ∨ i = 1 ∨ i = 2 ∨ i = 3 ∨ i = 4 ∨ i = 5 ∨ i = 6 ∨ i = 7 := by omega
    rcases hm with e | e | e | e | e | e | e | e <;> rw [e] <;> rfl
  · rw [List.getElem?_eq_none (by rw [flat_len]; simp; omega), List.getElem?_eq_none (by simp [encV]; omega)]
theorem flV3 (a b c : Nv) : (flatK encV 8 [a, b, c].toArray).toList = encV a ++ (encV b ++ encV c) := by
  have h1 := flat_app encV 8 (by decide) [a] [b, c]
  have h2 := flat_app encV 8 (by decide) [b] [c]
  rw [flV1] at h1 h2
  rw [flV1] at h2
  rw [show [b, c] = [b] ++ [c] from rfl, h2] at h1
  exact h1
theorem below_undrew {w w' : World} (h : Below w.drew.heap.size w.drew w') : Below w.heap.size w w' := ⟨h.os, h.tape, h.output, h.size, h.block⟩
theorem three {w Y : World} {o1 o2 o3 : Obj} (h : Y = ((w.alloc o1).alloc o2).alloc o3) : Y.heap[w.heap.size]? = some o1 ∧ Y.heap[w.heap.size + 1]? = some o2 ∧ Y.heap[w.heap.size + 2]? = some o3 ∧ Below w.heap.size w Y ∧ Y.heap.size = w.heap.size + 3 := by
  obtain ⟨a, b, c, d⟩ := two (w := w) (o1 := o1) (o2 := o2) rfl
  have nw := box_nw ((w.alloc o1).alloc o2) o3
  rw [d] at nw
  have bl := (Below.refl ((w.alloc o1).alloc o2).heap.size ((w.alloc o1).alloc o2)).alloc (Nat.le_refl _) o3
  subst h
  exact ⟨(bl.block _ (by omega)).trans a, (bl.block _ (by omega)).trans b, nw, c.alloc (by omega) _, by simp⟩
theorem event_any (w : World) : Calls Try.prog 23 #[] w fun e w' => (∃ g, e = .returned (.slice (some ⟨g, 0, none⟩) 2 2) ∧ SlOf encP 4 w' (some ⟨g, 0, none⟩) 2 evF) ∧ Below w.heap.size w w' := by
  go_enter Try.func23, Try.ntmps23
  go_wp2
  go_ret
  exact ⟨⟨_, rfl, block_of (l := evF) (box_nw _ _) flF (by decide)⟩, (Below.refl _ _).alloc (Nat.le_refl _) _⟩
theorem predF_any (kind : Int) (attr : ByteArray) (qi : Option Addr) (ni ci : Nat) (qw : Option Addr) (nw cw : Nat) (lo hi : Int) (w : World) :
    Calls Try.prog 22 #[.agg #[.int .i64 kind, .string attr, .slice qi ni ci, .slice qw nw cw, .int .i64 lo, .int .i64 hi]] w fun e w' => e = .returned (.agg #[.int .i64 kind, .string attr, .slice qi ni ci, .slice qw nw cw, .int .i64 lo, .int .i64 hi, .int .i64 1, .slice none 0 0]) ∧ Below w.heap.size w w' := by
  go_enter Try.func22, Try.ntmps22
  go_wp2
  refine bodyPost_ret (v := .agg #[.int .i64 kind, .string attr, .slice qi ni ci, .slice qw nw cw, .int .i64 lo, .int .i64 hi, .int .i64 1, .slice none 0 0]) (by simp [results, Try.results22, go_sem]) rfl ⟨rfl, ?_⟩
  exact ((Below.refl _ _).alloc (Nat.le_refl _) _).alloc (by simp) _
theorem wantIn {w : World} {kind : Int} {attr : ByteArray} {ints : List Int} {words : List ByteArray} {lo hi : Int} {qi : Option Addr} {ci : Nat} {qw : Option Addr} {cw : Nat} (h1 : SlOf encI 1 w qi ci ints) (h2 : SlOf encS 1 w qw cw words) :
    NdIn w ⟨kind, attr, qi, ints.length, ci, qw, words.length, cw, lo, hi, 1, none, 0, 0⟩ (.mk kind attr ints words lo hi 1 []) := NdIn.make (kids := []) h1 h2 ⟨[], SlOf.none w, rfl, fun j v x hj _ => by simp at hj⟩
/-- The three trees lie in a list. -/
theorem three_in {Y : World} {f B1 B2 : Nat} (hI : Y.heap[f]? = some (.cells #[.int .i64 1, .int .i64 5] 3 (0, 0))) (h1 : Y.heap[B1]? = some (.cells #[.int .i64 3, .string ⟨#[97]⟩, .slice none 0 0, .slice none 0 0, .int .i64 9, .int .i64 5, .int .i64 1, .slice none 0 0] 31 (0, 0))) (h2 : Y.heap[B2]? = some (.cells #[.int .i64 1, .string ⟨#[97]⟩, .slice (some ⟨f, 0, none⟩) 2 2, .slice none 0 0, .int .i64 0, .int .i64 0, .int .i64 1, .slice none 0 0, .int .i64 3, .string ⟨#[97]⟩, .slice none 0 0, .slice none 0 0, .int .i64 9, .int .i64 5, .int .i64 1, .slice none 0 0, .int .i64 0, .string ⟨#[]⟩, .slice none 0 0, .slice none 0 0, .int .i64 0, .int .i64 0, .int .i64 2, .slice (some ⟨B1, 0, none⟩) 1 1] 31 (0, 0))) : NdsOf Y (some ⟨B2, 0, none⟩) 3 [T5, T0, notT T0] := by
  have e0 : NdIn Y ⟨3, ⟨#[97]⟩, none, 0, 0, none, 0, 0, 9, 5, 1, none, 0, 0⟩ T0 := wantIn (ints := []) (words := []) (SlOf.none _) (SlOf.none _)
  have e5 : NdIn Y ⟨1, ⟨#[97]⟩, some ⟨f, 0, none⟩, 2, 2, none, 0, 0, 0, 0, 1, none, 0, 0⟩ T5 := wantIn (ints := [1, 5]) (words := []) (block_of (l := ([1, 5] : List Int)) hI flI (by decide)) (SlOf.none _)
  have en : NdIn Y ⟨0, ⟨#[]⟩, none, 0, 0, none, 0, 0, 0, 0, 2, some ⟨B1, 0, none⟩, 1, 1⟩ (notT T0) := NdIn.make (ints := []) (words := []) (kids := [T0]) (SlOf.none _) (SlOf.none _) ⟨[⟨3, ⟨#[97]⟩, none, 0, 0, none, 0, 0, 9, 5, 1, none, 0, 0⟩], block_of (l := [(⟨3, ⟨#[97]⟩, none, 0, 0, none, 0, 0, 9, 5, 1, none, 0, 0⟩ : Nv)]) h1 (by rw [flV1]; rfl) (by simp), rfl, fun j v x hj hx => by
    rcases j with _ | j
    · simp at hj hx; subst hj hx; exact e0
    · simp at hx⟩
  refine ⟨[⟨1, ⟨#[97]⟩, some ⟨f, 0, none⟩, 2, 2, none, 0, 0, 0, 0, 1, none, 0, 0⟩, ⟨3, ⟨#[97]⟩, none, 0, 0, none, 0, 0, 9, 5, 1, none, 0, 0⟩, ⟨0, ⟨#[]⟩, none, 0, 0, none, 0, 0, 0, 0, 2, some ⟨B1, 0, none⟩, 1, 1⟩], block_of (l := [(⟨1, ⟨#[97]⟩, some ⟨f, 0, none⟩, 2, 2, none, 0, 0, 0, 0, 1, none, 0, 0⟩ : Nv), ⟨3, ⟨#[97]⟩, none, 0, 0, none, 0, 0, 9, 5, 1, none, 0, 0⟩, ⟨0, ⟨#[]⟩, none, 0, 0, none, 0, 0, 0, 0, 2, some ⟨B1, 0, none⟩, 1, 1⟩]) h2 (by rw [flV3]; rfl) (by simp), rfl, fun j v x hj hx => ?_⟩
  rcases j with _ | _ | _ | j
  · simp at hj hx; subst hj hx; exact e5
  · simp at hj hx; subst hj hx; exact e0
  · simp at hj hx; subst hj hx; exact en
  · simp at hx
set_option maxRecDepth 100000 in
set_option maxHeartbeats 8000000 in
theorem fixed_any (w : World) : Calls Try.prog 5 #[] w fun e w' => e = .returned (.bool true) ∧ Below w.heap.size w w' := by
  have B0 := hide ((Below.refl w.heap.size w).alloc (Nat.le_refl _) (.cells #[.int .i64 1, .int .i64 5] 3))
  have I0 := hide (box_nw w (.cells #[.int .i64 1, .int .i64 5] 3))
  go_enter Try.func5, Try.ntmps5
  go_wp2_with (first
    | (go_at_call 22; have tst := unhide B1; refine name_world ?_; intro Y hY; obtain ⟨y1, y2, y3, bY, sY⟩ := three hY; clear hY tst; refine (predF_any _ _ _ _ _ _ _ _ _ _ _).mono ?_; rintro e w2 ⟨rfl, b2⟩; have Y1 := hide ((b2.block _ (heap_lt y1)).trans y1); have Y2 := hide ((b2.block _ (heap_lt y2)).trans y2); have Y3 := hide ((b2.block _ (heap_lt y3)).trans y3); have B2 := hide (below_sub bY b2); have I2 := hide (((below_sub bY b2).block _ (heap_lt (unhide I1))).trans (unhide I1)); clear y1 y2 y3 bY sY b2)
    | (go_at_call 22; refine (predF_any _ _ _ _ _ _ _ _ _ _ _).mono ?_; rintro e w1 ⟨rfl, b1⟩; have I1 := hide ((b1.block _ (heap_lt (unhide I0))).trans (unhide I0)); have B1 := hide (below_sub (unhide B0) b1); clear b1))
  obtain ⟨X, hX⟩ : ∃ X, w2.alloc (.cells #[.int .i64 3, .string ⟨#[97]⟩, .slice none 0 0, .slice none 0 0, .int .i64 9, .int .i64 5, .int .i64 1, .slice none 0 0] 31) = X := ⟨_, rfl⟩
  rw [hX]
  have bX : Below w2.heap.size w2 X := by rw [← hX]; exact (Below.refl _ _).alloc (Nat.le_refl _) _
  have xE : X.heap[w2.heap.size]? = some (.cells #[.int .i64 3, .string ⟨#[97]⟩, .slice none 0 0, .slice none 0 0, .int .i64 9, .int .i64 5, .int .i64 1, .slice none 0 0] 31 (0, 0)) := by rw [← hX]; exact box_nw _ _
  have xF : X.heap[w1.heap.size]? = some (.cells #[.int .i64 1, .string ⟨#[97]⟩, .slice (some ⟨w.heap.size, 0, none⟩) 2 2, .slice none 0 0, .int .i64 0, .int .i64 0, .int .i64 1, .slice none 0 0] 31 (0, 0)) := (bX.block _ (heap_lt (unhide Y1))).trans (unhide Y1)
  have xW : X.heap[w1.heap.size + 1]? = some (.cells #[.string ⟨#[97]⟩] 9 (0, 0)) := (bX.block _ (heap_lt (unhide Y2))).trans (unhide Y2)
  have xB : X.heap[w1.heap.size + 2]? = some (.cells #[.int .i64 4, .string ⟨#[99]⟩, .slice none 0 0, .slice (some ⟨w1.heap.size + 1, 0, none⟩) 1 1, .int .i64 0, .int .i64 0] 29 (0, 0)) := (bX.block _ (heap_lt (unhide Y3))).trans (unhide Y3)
  have xI : X.heap[w.heap.size]? = some (.cells #[.int .i64 1, .int .i64 5] 3 (0, 0)) := (bX.block _ (heap_lt (unhide I2))).trans (unhide I2)
  have BX := hide (below_sub (unhide B1) (below_sub (unhide B2) bX))
  have XE := hide xE
  have XF := hide xF
  have XW := hide xW
  have XB := hide xB
  have XI := hide xI
  have KS : ∀ W, Below X.heap.size X W → (fun w' => w'.cell? ⟨w1.heap.size, 0, none⟩ = some (.int .i64 1) ∧ w'.cell? ⟨w1.heap.size, 1, none⟩ = some (.string ⟨#[97]⟩) ∧ w'.cell? ⟨w1.heap.size, 2, none⟩ = some (.slice (some ⟨w.heap.size, 0, none⟩) 2 2) ∧ w'.cell? ⟨w1.heap.size, 3, none⟩ = some (.slice none 0 0) ∧ w'.cell? ⟨w1.heap.size, 4, none⟩ = some (.int .i64 0) ∧ w'.cell? ⟨w1.heap.size, 5, none⟩ = some (.int .i64 0) ∧ w'.cell? ⟨w1.heap.size, 6, none⟩ = some (.int .i64 1) ∧ w'.cell? ⟨w1.heap.size, 7, none⟩ = some (.slice none 0 0) ∧ w'.cell? ⟨w2.heap.size, 0, none⟩ = some (.int .i64 3) ∧ w'.cell? ⟨w2.heap.size, 1, none⟩ = some (.string ⟨#[97]⟩) ∧ w'.cell? ⟨w2.heap.size, 2, none⟩ = some (.slice none 0 0) ∧ w'.cell? ⟨w2.heap.size, 3, none⟩ = some (.slice none 0 0) ∧ w'.cell? ⟨w2.heap.size, 4, none⟩ = some (.int .i64 9) ∧ w'.cell? ⟨w2.heap.size, 5, none⟩ = some (.int .i64 5) ∧ w'.cell? ⟨w2.heap.size, 6, none⟩ = some (.int .i64 1) ∧ w'.cell? ⟨w2.heap.size, 7, none⟩ = some (.slice none 0 0)) W := fun W hb => by
    obtain ⟨a0, a1, a2, a3, a4, a5, a6, a7⟩ := of8' ((hb.block _ (heap_lt (unhide XF))).trans (unhide XF))
    obtain ⟨b0, b1, b2, b3, b4, b5, b6, b7⟩ := of8' ((hb.block _ (heap_lt (unhide XE))).trans (unhide XE))
    exact ⟨a0, a1, a2, a3, a4, a5, a6, a7, b0, b1, b2, b3, b4, b5, b6, b7⟩
  have bal : ∀ W (ob : Obj), Below X.heap.size X W → Below X.heap.size X (W.alloc ob) := fun W ob hb => hb.alloc hb.size _
  have dX : Below X.heap.size X X.drew := (Below.refl _ _).drew
  clear bX xE xF xW xB xI hX
  go_wp2
  obtain ⟨a0, a1, a2, a3, a4, a5, a6, a7, b0, b1, b2, b3, b4, b5, b6, b7⟩ := KS X (Below.refl _ _)
  go_region_held3 (fun w' => w'.cell? ⟨w1.heap.size, 0, none⟩ = some (.int .i64 1) ∧ w'.cell? ⟨w1.heap.size, 1, none⟩ = some (.string ⟨#[97]⟩) ∧ w'.cell? ⟨w1.heap.size, 2, none⟩ = some (.slice (some ⟨w.heap.size, 0, none⟩) 2 2) ∧ w'.cell? ⟨w1.heap.size, 3, none⟩ = some (.slice none 0 0) ∧ w'.cell? ⟨w1.heap.size, 4, none⟩ = some (.int .i64 0) ∧ w'.cell? ⟨w1.heap.size, 5, none⟩ = some (.int .i64 0) ∧ w'.cell? ⟨w1.heap.size, 6, none⟩ = some (.int .i64 1) ∧ w'.cell? ⟨w1.heap.size, 7, none⟩ = some (.slice none 0 0) ∧ w'.cell? ⟨w2.heap.size, 0, none⟩ = some (.int .i64 3) ∧ w'.cell? ⟨w2.heap.size, 1, none⟩ = some (.string ⟨#[97]⟩) ∧ w'.cell? ⟨w2.heap.size, 2, none⟩ = some (.slice none 0 0) ∧ w'.cell? ⟨w2.heap.size, 3, none⟩ = some (.slice none 0 0) ∧ w'.cell? ⟨w2.heap.size, 4, none⟩ = some (.int .i64 9) ∧ w'.cell? ⟨w2.heap.size, 5, none⟩ = some (.int .i64 5) ∧ w'.cell? ⟨w2.heap.size, 6, none⟩ = some (.int .i64 1) ∧ w'.cell? ⟨w2.heap.size, 7, none⟩ = some (.slice none 0 0))
    (first | exact KS _ dX | exact KS _ R4 | exact KS _ R2 | exact KS _ (bal _ _ R2) | exact KS _ (bal _ _ (bal _ _ R2)) | exact KS _ (bal _ _ dX) | exact KS _ (bal _ _ (bal _ _ dX)))
    (first
      | (go_at_call 23; refine (event_any _).mono ?_; rintro e w3 ⟨⟨ge, rfl, hse⟩, hb3⟩; have R2 : Below X.heap.size X w3 := below_undrew hb3; have FA := hide trivial; have HSE := hide hse; clear hse)
      | (go_at_call 23; refine (event_any _).mono ?_; rintro e w3 ⟨⟨ge, rfl, hse⟩, hb3⟩; have R2 : Below X.heap.size X w3 := (by first | exact below_sub (bal _ _ (bal _ _ dX)) hb3 | exact below_sub (bal _ _ (bal _ _ (Below.refl _ _))) hb3 | exact below_sub (bal _ _ (bal _ _ (Below.refl _ _))) (below_undrew hb3)); have FC := hide trivial; have HSE := hide hse; clear hse)
      | (go_at_call 23; refine (event_any _).mono ?_; rintro e w3 ⟨⟨ge, rfl, hse⟩, hb3⟩; have R2 : Below X.heap.size X w3 := (by first | exact below_sub (bal _ _ dX) hb3 | exact below_sub (bal _ _ (Below.refl _ _)) hb3 | exact below_sub (bal _ _ (Below.refl _ _)) (below_undrew hb3)); have FB := hide trivial; have HSE := hide hse; clear hse)
      | (go_at_call 13; have tst := FA; refine name_world ?_; intro Y hY; obtain ⟨y1, y2, bY, sY⟩ := two (w := w3) hY.symm; have hW := which_any evF (some ⟨ge, 0, none⟩) 2 (some ⟨w3.heap.size + 1, 0, none⟩) 3 [T5, T0, notT T0] Y ((unhide HSE).below bY) (three_in (f := w.heap.size) (B1 := w3.heap.size) (((below_sub R2 bY).block _ (heap_lt (unhide XI))).trans (unhide XI)) y1 y2) (by decide) (by decide); rw [whF] at hW; simp only [List.length_cons, List.length_nil, Nat.zero_add, Nat.reduceAdd] at hW; refine hW.mono ?_; rintro e w4 ⟨⟨q4, c4, rfl, ho4⟩, hb4⟩; have HO4 := hide ho4; have R4 : Below X.heap.size X w4 := below_sub (below_sub R2 bY) hb4; clear hW y1 y2)
      | (go_at_call 13; have tst := FB; refine name_world ?_; intro Y hY; have bY : Below w3.heap.size w3 Y := (by rw [hY]; exact (Below.refl _ _).alloc (Nat.le_refl _) _); have y2 : Y.heap[w3.heap.size]? = some (.cells #[.int .i64 1, .string ⟨#[97]⟩, .slice (some ⟨w.heap.size, 0, none⟩) 2 2, .slice none 0 0, .int .i64 0, .int .i64 0, .int .i64 1, .slice none 0 0, .int .i64 3, .string ⟨#[97]⟩, .slice none 0 0, .slice none 0 0, .int .i64 9, .int .i64 5, .int .i64 1, .slice none 0 0, .int .i64 0, .string ⟨#[]⟩, .slice none 0 0, .slice none 0 0, .int .i64 0, .int .i64 0, .int .i64 2, .slice (some ⟨X.heap.size, 0, none⟩) 1 1] 31 (0, 0)) := (by rw [hY]; exact box_nw _ _); have lX : X.heap.size < w3.heap.size := (by have := hb3.size; simp at this; omega); have y1 : Y.heap[X.heap.size]? = some (.cells #[.int .i64 3, .string ⟨#[97]⟩, .slice none 0 0, .slice none 0 0, .int .i64 9, .int .i64 5, .int .i64 1, .slice none 0 0] 31 (0, 0)) := (bY.block _ lX).trans ((hb3.block _ (by simp)).trans (box_nw X _)); have hW := which_any evF (some ⟨ge, 0, none⟩) 2 (some ⟨w3.heap.size, 0, none⟩) 3 [T5, T0, notT T0] Y ((unhide HSE).below bY) (three_in (f := w.heap.size) (B1 := X.heap.size) (((below_sub R2 bY).block _ (heap_lt (unhide XI))).trans (unhide XI)) y1 y2) (by decide) (by decide); rw [whF] at hW; simp only [List.length_cons, List.length_nil, Nat.zero_add, Nat.reduceAdd] at hW; refine hW.mono ?_; rintro e w4 ⟨⟨q4, c4, rfl, ho4⟩, hb4⟩; have HO4 := hide ho4; have R4 : Below X.heap.size X w4 := below_sub (below_sub R2 bY) hb4; clear hW y1 y2)
      | (go_at_call 13; have tst := FC; refine name_world ?_; intro Y hY; have bY : Below w3.heap.size w3 Y := (by rw [hY]; exact Below.refl _ _); obtain ⟨t1, t2, _, _⟩ := two (w := X) (o1 := .cells #[.int .i64 3, .string ⟨#[97]⟩, .slice none 0 0, .slice none 0 0, .int .i64 9, .int .i64 5, .int .i64 1, .slice none 0 0] 31) (o2 := .cells #[.int .i64 1, .string ⟨#[97]⟩, .slice (some ⟨w.heap.size, 0, none⟩) 2 2, .slice none 0 0, .int .i64 0, .int .i64 0, .int .i64 1, .slice none 0 0, .int .i64 3, .string ⟨#[97]⟩, .slice none 0 0, .slice none 0 0, .int .i64 9, .int .i64 5, .int .i64 1, .slice none 0 0, .int .i64 0, .string ⟨#[]⟩, .slice none 0 0, .slice none 0 0, .int .i64 0, .int .i64 0, .int .i64 2, .slice (some ⟨X.heap.size, 0, none⟩) 1 1] 31) rfl; have y1 : Y.heap[X.heap.size]? = some (.cells #[.int .i64 3, .string ⟨#[97]⟩, .slice none 0 0, .slice none 0 0, .int .i64 9, .int .i64 5, .int .i64 1, .slice none 0 0] 31 (0, 0)) := (by rw [hY]; exact (hb3.block _ (by simp; omega)).trans t1); have y2 : Y.heap[X.heap.size + 1]? = some (.cells #[.int .i64 1, .string ⟨#[97]⟩, .slice (some ⟨w.heap.size, 0, none⟩) 2 2, .slice none 0 0, .int .i64 0, .int .i64 0, .int .i64 1, .slice none 0 0, .int .i64 3, .string ⟨#[97]⟩, .slice none 0 0, .slice none 0 0, .int .i64 9, .int .i64 5, .int .i64 1, .slice none 0 0, .int .i64 0, .string ⟨#[]⟩, .slice none 0 0, .slice none 0 0, .int .i64 0, .int .i64 0, .int .i64 2, .slice (some ⟨X.heap.size, 0, none⟩) 1 1] 31 (0, 0)) := (by rw [hY]; exact (hb3.block _ (by simp)).trans t2); have hW := which_any evF (some ⟨ge, 0, none⟩) 2 (some ⟨X.heap.size + 1, 0, none⟩) 3 [T5, T0, notT T0] Y ((unhide HSE).below bY) (three_in (f := w.heap.size) (B1 := X.heap.size) (((below_sub R2 bY).block _ (heap_lt (unhide XI))).trans (unhide XI)) y1 y2) (by decide) (by decide); rw [whF] at hW; simp only [List.length_cons, List.length_nil, Nat.zero_add, Nat.reduceAdd] at hW; refine hW.mono ?_; rintro e w4 ⟨⟨q4, c4, rfl, ho4⟩, hb4⟩; have HO4 := hide ho4; have R4 : Below X.heap.size X w4 := below_sub (below_sub R2 bY) hb4; clear hW y1 y2))
  all_goals
    obtain ⟨gw, o9, hq9, hgl, hc9⟩ := intsAt (unhide HO4).ls (j := 1) rfl
    subst hq9
    have HC9 := hide hc9
    have KS5 : ∀ W, Below w4.heap.size w4 W → (fun w' => w'.cell? ⟨w1.heap.size, 0, none⟩ = some (.int .i64 1) ∧ w'.cell? ⟨w1.heap.size, 1, none⟩ = some (.string ⟨#[97]⟩) ∧ w'.cell? ⟨w1.heap.size, 2, none⟩ = some (.slice (some ⟨w.heap.size, 0, none⟩) 2 2) ∧ w'.cell? ⟨w1.heap.size, 3, none⟩ = some (.slice none 0 0) ∧ w'.cell? ⟨w1.heap.size, 4, none⟩ = some (.int .i64 0) ∧ w'.cell? ⟨w1.heap.size, 5, none⟩ = some (.int .i64 0) ∧ w'.cell? ⟨w1.heap.size, 6, none⟩ = some (.int .i64 1) ∧ w'.cell? ⟨w1.heap.size, 7, none⟩ = some (.slice none 0 0) ∧ w'.cell? ⟨w1.heap.size + 2, 0, none⟩ = some (.int .i64 4) ∧ w'.cell? ⟨w1.heap.size + 2, 1, none⟩ = some (.string ⟨#[99]⟩) ∧ w'.cell? ⟨w1.heap.size + 2, 2, none⟩ = some (.slice none 0 0) ∧ w'.cell? ⟨w1.heap.size + 2, 3, none⟩ = some (.slice (some ⟨w1.heap.size + 1, 0, none⟩) 1 1) ∧ w'.cell? ⟨w1.heap.size + 2, 4, none⟩ = some (.int .i64 0) ∧ w'.cell? ⟨w1.heap.size + 2, 5, none⟩ = some (.int .i64 0) ∧ w'.cell? ⟨w2.heap.size, 0, none⟩ = some (.int .i64 3) ∧ w'.cell? ⟨w2.heap.size, 1, none⟩ = some (.string ⟨#[97]⟩) ∧ w'.cell? ⟨w2.heap.size, 2, none⟩ = some (.slice none 0 0) ∧ w'.cell? ⟨w2.heap.size, 3, none⟩ = some (.slice none 0 0) ∧ w'.cell? ⟨w2.heap.size, 4, none⟩ = some (.int .i64 9) ∧ w'.cell? ⟨w2.heap.size, 5, none⟩ = some (.int .i64 5) ∧ w'.cell? ⟨w2.heap.size, 6, none⟩ = some (.int .i64 1) ∧ w'.cell? ⟨w2.heap.size, 7, none⟩ = some (.slice none 0 0) ∧ w'.cell? ⟨gw, o9 + 1, none⟩ = some (.int .i64 2)) W := fun W hb => by
      have hX := below_sub R4 hb
      obtain ⟨a0, a1, a2, a3, a4, a5, a6, a7⟩ := of8' ((hX.block _ (heap_lt (unhide XF))).trans (unhide XF))
      obtain ⟨d0, d1, d2, d3, d4, d5⟩ := of6' ((hX.block _ (heap_lt (unhide XB))).trans (unhide XB))
      obtain ⟨b0, b1, b2, b3, b4, b5, b6, b7⟩ := of8' ((hX.block _ (heap_lt (unhide XE))).trans (unhide XE))
      exact ⟨a0, a1, a2, a3, a4, a5, a6, a7, d0, d1, d2, d3, d4, d5, b0, b1, b2, b3, b4, b5, b6, b7, (hb.cell (p := ⟨gw, o9 + 1, none⟩) (by exact hgl)).trans (unhide HC9)⟩
    have hE5 := fun (W : World) (g : Nat) (hs : SlOf encP 4 W (some ⟨g, 0, none⟩) 2 evF) (hb : Below w4.heap.size w4 W) => eval_any T5 ⟨1, ⟨#[97]⟩, some ⟨w.heap.size, 0, none⟩, 2, 2, none, 0, 0, 0, 0, 1, none, 0, 0⟩ (some ⟨g, 0, none⟩) 2 evF W (wantIn (ints := [1, 5]) (words := []) (block_of (l := ([1, 5] : List Int)) (((below_sub R4 hb).block _ (heap_lt (unhide XI))).trans (unhide XI)) flI (by decide)) (SlOf.none _)) hs (by decide) (by decide)
    have hE0 := fun (W : World) (g : Nat) (hs : SlOf encP 4 W (some ⟨g, 0, none⟩) 2 evF) => eval_any T0 ⟨3, ⟨#[97]⟩, none, 0, 0, none, 0, 0, 9, 5, 1, none, 0, 0⟩ (some ⟨g, 0, none⟩) 2 evF W (wantIn (ints := []) (words := []) (SlOf.none _) (SlOf.none _)) hs (by decide) (by decide)
    have hH := fun (W : World) (g : Nat) (hs : SlOf encP 4 W (some ⟨g, 0, none⟩) 2 evF) (hb : Below w4.heap.size w4 W) => holds_any 4 ⟨#[99]⟩ none 0 [] (some ⟨w1.heap.size + 1, 0, none⟩) 1 [⟨#[97]⟩] 0 0 (some ⟨g, 0, none⟩) 2 evF W (SlOf.none _) (block_of (l := ([⟨#[97]⟩] : List ByteArray)) (((below_sub R4 hb).block _ (heap_lt (unhide XW))).trans (unhide XW)) flS (by decide)) hs (by decide) (by decide) (by decide)
    rw [ev5] at hE5
    rw [ev0] at hE0
    rw [hld] at hH
    have le : evF.length = 2 := rfl
    simp only [Nv.val, le, List.length_cons, List.length_nil, Nat.zero_add] at hE5 hE0 hH
    obtain ⟨a0, a1, a2, a3, a4, a5, a6, a7, d0, d1, d2, d3, d4, d5, b0, b1, b2, b3, b4, b5, b6, b7, l1⟩ := KS5 w4 (Below.refl _ _)
    have d4' : Below w4.heap.size w4 w4.drew := (Below.refl _ _).drew
    clear hgl hc9 le
    go_wp2
    go_region_held3 (fun w' => w'.cell? ⟨w1.heap.size, 0, none⟩ = some (.int .i64 1) ∧ w'.cell? ⟨w1.heap.size, 1, none⟩ = some (.string ⟨#[97]⟩) ∧ w'.cell? ⟨w1.heap.size, 2, none⟩ = some (.slice (some ⟨w.heap.size, 0, none⟩) 2 2) ∧ w'.cell? ⟨w1.heap.size, 3, none⟩ = some (.slice none 0 0) ∧ w'.cell? ⟨w1.heap.size, 4, none⟩ = some (.int .i64 0) ∧ w'.cell? ⟨w1.heap.size, 5, none⟩ = some (.int .i64 0) ∧ w'.cell? ⟨w1.heap.size, 6, none⟩ = some (.int .i64 1) ∧ w'.cell? ⟨w1.heap.size, 7, none⟩ = some (.slice none 0 0) ∧ w'.cell? ⟨w1.heap.size + 2, 0, none⟩ = some (.int .i64 4) ∧ w'.cell? ⟨w1.heap.size + 2, 1, none⟩ = some (.string ⟨#[99]⟩) ∧ w'.cell? ⟨w1.heap.size + 2, 2, none⟩ = some (.slice none 0 0) ∧ w'.cell? ⟨w1.heap.size + 2, 3, none⟩ = some (.slice (some ⟨w1.heap.size + 1, 0, none⟩) 1 1) ∧ w'.cell? ⟨w1.heap.size + 2, 4, none⟩ = some (.int .i64 0) ∧ w'.cell? ⟨w1.heap.size + 2, 5, none⟩ = some (.int .i64 0) ∧ w'.cell? ⟨w2.heap.size, 0, none⟩ = some (.int .i64 3) ∧ w'.cell? ⟨w2.heap.size, 1, none⟩ = some (.string ⟨#[97]⟩) ∧ w'.cell? ⟨w2.heap.size, 2, none⟩ = some (.slice none 0 0) ∧ w'.cell? ⟨w2.heap.size, 3, none⟩ = some (.slice none 0 0) ∧ w'.cell? ⟨w2.heap.size, 4, none⟩ = some (.int .i64 9) ∧ w'.cell? ⟨w2.heap.size, 5, none⟩ = some (.int .i64 5) ∧ w'.cell? ⟨w2.heap.size, 6, none⟩ = some (.int .i64 1) ∧ w'.cell? ⟨w2.heap.size, 7, none⟩ = some (.slice none 0 0) ∧ w'.cell? ⟨gw, o9 + 1, none⟩ = some (.int .i64 2))
      (first | exact KS5 _ d4' | exact KS5 _ R5)
      (first
        | (go_at_call 23; refine (event_any _).mono ?_; rintro e w5 ⟨⟨g5, rfl, hse⟩, hb5⟩; have R5 : Below w4.heap.size w4 w5 := (by first | exact below_undrew hb5 | exact below_sub R5 hb5); have HS5 := hide hse; clear hse)
        | (go_at_call 8; have tst := H12; refine (hE0 _ g5 (unhide HS5)).mono ?_; rintro e w6 ⟨rfl, hb6⟩; have R5 : Below w4.heap.size w4 w6 := below_sub R5 hb6)
        | (go_at_call 10; refine (hH _ g5 (unhide HS5) R5).mono ?_; rintro e w6 ⟨rfl, hb6⟩; have R5 : Below w4.heap.size w4 w6 := below_sub R5 hb6; have H12 := hide trivial)
        | (go_at_call 8; refine (hE5 _ g5 (unhide HS5) R5).mono ?_; rintro e w6 ⟨rfl, hb6⟩; have R5 : Below w4.heap.size w4 w6 := below_sub R5 hb6))
    go_wp2
    go_ret
    exact ⟨rfl, below_sub (unhide BX) (below_sub R4 R5)⟩
end Go.Proofs.Ytkpdhkdegoincaa

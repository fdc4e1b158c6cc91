/- What the memory helpers Pairs and KeptPairs return, for every list of pairs. -/
import Derived.Test.YtojeihchkdkkgabRefEvent
namespace Go.Proofs.Ytojeihchkdkkgab
open Go.RowKit Go.Sort Go.Shelf

/-- The pair that marks the spare room. -/
def spP : ByteArray × Int × Int × ByteArray := (⟨#[115, 112, 97, 114, 101]⟩, 0, 0, ⟨#[]⟩)
theorem make_at (n : Nat) (h : n * 48 ≤ 140737488355328) : ∃ cur : Array Value, cur.size = n * 4 ∧ ∀ W : World, (Instr.makeSlice 23 (.int .i64 0) (.int .i64 (n : Int))).run Try.prog W = .ok (.slice (some ⟨W.heap.size, 0, none⟩) 0 n) (W.alloc (.cells cur 52)) := by
  obtain ⟨i0, hi, hz0, hz1, hz2⟩ := info_parts Try.info52
  refine ⟨madeCells (Value.agg #[.string ⟨#[]⟩, .int .i64 0, .int .i64 0, .string ⟨#[]⟩]).cells (n * i0.size), by rw [size_madeCells, hz1], fun W => ?_⟩
  have := run_make (P := Try.prog) W 23 52 i0 _ Try.underlying23 hi hz0 .i64 .i64 0 (n : Int) (Int.le_refl _) (by omega) (by rw [hz2]; omega) (by omega)
  simpa only [Int.toNat_zero, Int.toNat_natCast] using this
theorem OwnK.make {B : Nat} {w : World} {n : Nat} {cur : Array Value} (hB : B ≤ w.heap.size) (hn : n ≤ maxLen) (hs : cur.size = n * 4) : OwnK encP 52 4 B (w.alloc (.cells cur 52)) (some ⟨w.heap.size, 0, none⟩) n [] := by
  have : (flatK encP 4 ([] : List (ByteArray × Int × Int × ByteArray)).toArray).toList = [] := by simp [flatK]
  unfold OwnK; rw [this]; exact World.ownsRow_made w cur n hB hn hs
theorem OwnK.some_of {B : Nat} {w : World} {q : Option Addr} {cap : Nat} {l : List (ByteArray × Int × Int × ByteArray)} (h : OwnK encP 52 4 B w q cap l) (hl : 0 < l.length) : ∃ g, q = some ⟨g, 0, none⟩ ∧ l.length ≤ cap := by
  rcases h.newP with ⟨_, rfl, _⟩ | ⟨g, h1, _, _, _, h2, _⟩
  · simp at hl
  · exact ⟨g, h1, h2⟩
set_option maxHeartbeats 1000000 in
set_option maxRecDepth 100000 in
theorem pairs_any (p : Option Addr) (cap : Nat) (l : List (ByteArray × Int × Int × ByteArray)) (w : World) (hl : l.length * 48 + 48 ≤ 140737488355328) (hp : p = none → l.length = 0 ∧ cap = 0) (hA : PrsOf w p l) :
    Calls Try.prog 12 #[.slice p l.length cap] w fun e w' => (∃ g cp, e = .returned (.slice (some ⟨g, 0, none⟩) l.length cp) ∧ NewP w.heap.size w' (some ⟨g, 0, none⟩) cp (l ++ [spP])) ∧ Below w.heap.size w w' := by
  have mixed : Try.prog.follows .mixedOrders = true := by kernel_rfl
  have HA := hide hA
  have Hp := hide hp
  have l0 : (0 : Int) ≤ (l.length : Int) := by omega
  obtain ⟨cur, hcs, hmk⟩ := make_at (l.length + 1) (by omega)
  have hmk' : ∀ W : World, (Instr.makeSlice 23 (.int .i64 0) (.int .i64 ((l.length : Int) + 1))).run Try.prog W = .ok (.slice (some ⟨W.heap.size, 0, none⟩) 0 (l.length + 1)) (W.alloc (.cells cur 52)) := fun W => by have := hmk W; rwa [Int.natCast_add] at this
  have Hcs := hide hcs
  clear hA hp hmk hcs
  go_enter Try.func12, Try.ntmps12
  go_wp2_with (first
    | (at_builtin; refine wpList_app rowP rfl _ _ rfl w.heap.size q8 cp8 l (some ⟨w8.heap.size, 0, none⟩) 1 [spP] l.length 1 (l.length + 1) rfl rfl rfl rfl rfl ((unhide Hown8).below ((Below.refl _ _).alloc (Nat.le_refl _) _)) (SrcK.ofP (fun h => by cases h) (PrsOf.one (by simp) (by go_simp; rfl) (by go_simp; rfl) (by go_simp; rfl) (by go_simp; rfl))) (by unfold maxLen; omega) (by omega) (by have := (unhide B8).size; simp; omega) ?_; intro q9 cp9 w9 hown9 hb9 _ _; have Hown9 := hide hown9; have B9 := hide (((unhide B8).alloc (unhide B8).size (.cells #[.string ⟨#[115, 112, 97, 114, 101]⟩, .int .i64 0, .int .i64 0, .string ⟨#[]⟩] 52)).trans hb9); obtain ⟨g9, rfl, hc9⟩ := OwnK.some_of hown9 (by simp); have c9 : (l.length : Int) ≤ (cp9 : Int) := (by simp at hc9; omega); clear hown9 hb9 hc9)
    | (at_builtin; refine wpList_app rowP rfl _ _ rfl w.heap.size (some ⟨w.heap.size, 0, none⟩) (l.length + 1) [] p cap l 0 l.length l.length rfl rfl (by simp) rfl rfl (OwnK.make (Nat.le_refl _) (by unfold maxLen; omega) (unhide Hcs)) (SrcK.ofP (unhide Hp) ((unhide HA).below ((Below.refl _ _).alloc (Nat.le_refl _) _))) (by unfold maxLen; omega) (by omega) (by simp) ?_; intro q8 cp8 w8 hown8 hb8 _ _; have Hown8 := hide hown8; have B8 := hide (((Below.refl w.heap.size w).alloc (Nat.le_refl _) (.cells cur 52)).trans hb8); clear hown8 hb8))
  go_ret
  exact ⟨⟨g9, cp9, rfl, (unhide Hown9).newP⟩, unhide B9⟩
set_option maxHeartbeats 1000000 in
set_option maxRecDepth 100000 in
theorem kept_any (g cp : Nat) (p' : Option Addr) (cp' : Nat) (l : List (ByteArray × Int × Int × ByteArray)) (w : World) (hl : l.length * 48 + 48 ≤ 140737488355328) (hN : PrsOf w (some ⟨g, 0, none⟩) (l ++ [spP])) (hc : l.length + 1 ≤ cp) (hA' : PrsOf w p' l) :
    Calls Try.prog 20 #[.slice (some ⟨g, 0, none⟩) l.length cp, .slice p' l.length cp'] w fun e w' => e = .returned (.bool true) ∧ Below w.heap.size w w' := by
  have mixed : Try.prog.follows .mixedOrders = true := by kernel_rfl
  have e19 : ∀ args w, (callFunc 19 args).run Try.prog w = .ok (.enter 19 args) w := enters_of Try.func19 (by kernel_rfl) rfl
  have l0 : (0 : Int) ≤ (l.length : Int) := by omega
  have l1 : (0 : Int) ≤ (l.length : Int) + 1 := by omega
  have l2 : (l.length : Int) + 1 ≤ (cp : Int) := by omega
  obtain ⟨b, off, hb, hlt, hAt⟩ := hN (by simp)
  cases hb
  have hAl : PrsOf w (some ⟨g, 0, none⟩) l := fun _ => ⟨g, 0, rfl, hlt, by have := hAt.take l.length; rwa [List.take_left] at this⟩
  obtain ⟨c0, c1, c2, c3⟩ := hAt l.length spP (by simp)
  have heq := fun (W : World) => eqlP_same spP W
  simp only [Nat.zero_add, spP] at c0 c1 c2 c3 heq
  have hsame := fun (W : World) (hb : Below w.heap.size w W) => sameP_eq (some ⟨g, 0, none⟩) p' cp cp' l W (by omega) (hAl.below hb) (hA'.below hb)
  have Hs := hide hsame
  clear hN hA' hAl hAt hsame
  go_enter Try.func20, Try.ntmps20
  go_wp2_with (first | (go_at_call 19; refine (unhide Hs _ (Below.refl _ _)).mono ?_; rintro e w1 ⟨rfl, b1⟩))
  go_ret
  exact ⟨rfl, b1⟩
end Go.Proofs.Ytojeihchkdkkgab

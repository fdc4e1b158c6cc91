/- The reader in memory: what is ahead, what is behind, what it needs. -/
import Derived.Test.YtfigjfmldpfjkaaGreatEnc5
namespace Go.Proofs.YtfigjfmldpfjkaaGreat
open Go.RowKit Go.Sort

theorem grown_drew (w : World) (r : Option Nat) : w.grownBy w.drew r := ⟨rfl, rfl, rfl, Nat.le_refl _, fun _ _ _ => rfl⟩
theorem grown_below {w w' : World} (h : Below w.heap.size w w') (r : Option Nat) : w.grownBy w' r := ⟨h.os, h.tape, h.output, h.size, fun k hk _ => h.block k hk⟩
theorem below_grown {w w' : World} {B g : Nat} (h : w.grownBy w' (some g)) (hB : B ≤ g) (hs : B ≤ w.heap.size) : Below B w w' :=
  ⟨h.os, h.tape, h.output, h.size, fun k hk => h.block k (by omega) (by intro e; cases e; omega)⟩

/-- The reader at block g goes through the bytes l, which lie at q; it stands at a, and is torn or not. -/
def Rd (w : World) (g : Nat) (q : Option Addr) (cap : Nat) (l : List UInt8) (a : Nat) (t : Bool) : Prop :=
  w.heap[g]? = some (.cells #[.slice q l.length cap, .int .i64 (a : Int), .bool t] 150 (0, 0)) ∧ SlOf encB 1 w q cap l ∧ a ≤ l.length
theorem Rd.cells {w : World} {g : Nat} {q : Option Addr} {cap : Nat} {l : List UInt8} {a : Nat} {t : Bool} (h : Rd w g q cap l a t) : w.cell? ⟨g, 0, none⟩ = some (.slice q l.length cap) ∧ w.cell? ⟨g, 1, none⟩ = some (.int .i64 (a : Int)) ∧ w.cell? ⟨g, 2, none⟩ = some (.bool t) := by
  refine ⟨?_, ?_, ?_⟩ <;> (unfold World.cell?; rw [h.1]; rfl)
theorem Rd.free {w : World} {g : Nat} {q : Option Addr} {cap : Nat} {l : List UInt8} {a : Nat} {t : Bool} (h : Rd w g q cap l a t) (o : Nat) : w.frozen? ⟨g, o, none⟩ = false := frozen_free h.1
theorem Rd.lt {w : World} {g : Nat} {q : Option Addr} {cap : Nat} {l : List UInt8} {a : Nat} {t : Bool} (h : Rd w g q cap l a t) : g < w.heap.size := (Array.getElem?_eq_some_iff.1 h.1).1
theorem Rd.off {w : World} {g : Nat} {q : Option Addr} {cap : Nat} {l : List UInt8} {a : Nat} {t : Bool} (h : Rd w g q cap l a t) {b off : Nat} (hl : 0 < l.length) (hq : q = some ⟨b, off, none⟩) : b ≠ g := by
  rintro rfl
  obtain ⟨x, hx, _⟩ := get_at hl
  obtain ⟨b', off', hq', _, hc⟩ := byteAt h.2.1 hx
  rw [hq] at hq'
  injection hq' with hq'
  injection hq' with h1 h2
  subst h1 h2
  have : (#[Value.slice q l.length cap, .int .i64 (a : Int), .bool t] : Array Value)[off]? = some (.int .u8 (x.toNat : Int)) := by
    have h2 := hc
    unfold World.cell? at h2; rw [h.1] at h2; simpa using h2
  rcases off with _ | _ | _ | off <;> simp at this
theorem Rd.keep {w w' : World} {g : Nat} {q : Option Addr} {cap : Nat} {l : List UInt8} {a : Nat} {t : Bool} (h : Rd w g q cap l a t) (hg : w.grownBy w' (some g)) : SlOf encB 1 w' q cap l := by
  refine ⟨h.2.1.1, h.2.1.2.1, h.2.1.2.2.1, fun hl => ?_⟩
  obtain ⟨b, off, hq, hb, hA⟩ := h.2.1.2.2.2 hl
  have hne := h.off hl hq
  refine ⟨b, off, hq, Nat.lt_of_lt_of_le hb hg.size, fun j u hj => ?_⟩
  have hblk := hg.block b hb (fun e => hne (by injection e with e))
  have hc : w'.cell? ⟨b, off + j, none⟩ = w.cell? ⟨b, off + j, none⟩ := by unfold World.cell?; simp only [hblk]
  exact hc.trans (hA j u hj)
theorem Rd.turn {w w' : World} {g : Nat} {q : Option Addr} {cap : Nat} {l : List UInt8} {a a' : Nat} {t t' : Bool} (h : Rd w g q cap l a t) (hg : w.grownBy w' (some g)) (hb : w'.heap[g]? = some (.cells #[.slice q l.length cap, .int .i64 (a' : Int), .bool t'] 150 (0, 0))) (ha : a' ≤ l.length) : Rd w' g q cap l a' t' := ⟨hb, h.keep hg, ha⟩
theorem Rd.below {w w' : World} {g : Nat} {q : Option Addr} {cap : Nat} {l : List UInt8} {a : Nat} {t : Bool} (h : Rd w g q cap l a t) (hb : Below w.heap.size w w') : Rd w' g q cap l a t := ⟨(hb.block g h.lt).trans h.1, h.2.1.below hb, h.2.2⟩
theorem Rd.setT {w : World} {g : Nat} {q : Option Addr} {cap : Nat} {l : List UInt8} {a : Nat} {t : Bool} (h : Rd w g q cap l a t) (t' : Bool) : Rd (w.setCell ⟨g, 2, none⟩ (.bool t')) g q cap l a t' := by
  refine h.turn (grown_set _ _ _ _) ?_ h.2.2
  rw [heap_setCell_same w g 2 _ 150 _ h.1]; rfl
theorem Rd.setA {w : World} {g : Nat} {q : Option Addr} {cap : Nat} {l : List UInt8} {a : Nat} {t : Bool} (h : Rd w g q cap l a t) (a' : Nat) (ha : a' ≤ l.length) : Rd (w.setCell ⟨g, 1, none⟩ (.int .i64 (a' : Int))) g q cap l a' t := by
  refine h.turn (grown_set _ _ _ _) ?_ ha
  rw [heap_setCell_same w g 1 _ 150 _ h.1]; rfl

set_option maxHeartbeats 1000000 in
theorem need_any (g : Nat) (q : Option Addr) (cap : Nat) (l : List UInt8) (a : Nat) (t ok : Bool) (w : World) (h : Rd w g q cap l a t) :
    Calls Tryz.prog 121 #[.pointer (some ⟨g, 0, none⟩), .bool ok] w fun e w' => (∃ v, e = .returned v) ∧ Rd w' g q cap l a (t || !ok) ∧ w.grownBy w' (some g) := by
  obtain ⟨c0, c1, c2⟩ := h.cells
  have f2 := h.free 2
  have H := hide h
  clear h
  cases t
  · cases ok
    · go_enter Tryz.func121, Tryz.ntmps121
      go_wp2
      go_end0
      exact ⟨⟨_, rfl⟩, (unhide H).setT true, grown_set _ _ _ _⟩
    · go_enter Tryz.func121, Tryz.ntmps121
      go_wp2
      go_end0
      exact ⟨⟨_, rfl⟩, (unhide H).setT false, grown_set _ _ _ _⟩
  · go_enter Tryz.func121, Tryz.ntmps121
    go_wp2
    go_end0
    exact ⟨⟨_, rfl⟩, (unhide H).setT true, grown_set _ _ _ _⟩
/-- Where what is behind lies. -/
def cutA (q : Option Addr) (cap a : Nat) : Option Addr := if cap = a then q else Option.map (fun x => x.add a) q
theorem cutA_same (q : Option Addr) (a : Nat) : cutA q a a = q := if_pos rfl
theorem cutA_ne (q : Option Addr) {cap a : Nat} (h : ¬ cap = a) : cutA q cap a = Option.map (fun x => x.add a) q := if_neg h
set_option maxHeartbeats 1000000 in
theorem ahead_any (g : Nat) (q : Option Addr) (cap : Nat) (l : List UInt8) (a : Nat) (t : Bool) (w : World) (h : Rd w g q cap l a t) :
    Calls Tryz.prog 123 #[.pointer (some ⟨g, 0, none⟩)] w fun e w' => e = .returned (.slice q a cap) ∧ w' = w.drew := by
  obtain ⟨c0, c1, c2⟩ := h.cells
  have h1 : (a : Int) ≤ (cap : Int) := by have := h.2.2; have := h.2.1.2.1; omega
  have h2 : a ≤ cap := by omega
  clear h
  go_enter Tryz.func123, Tryz.ntmps123
  go_wp2
  go_region_held3 (fun w' => w'.cell? ⟨g, 0, none⟩ = some (.slice q l.length cap) ∧ w'.cell? ⟨g, 1, none⟩ = some (.int .i64 (a : Int))) (go_keep) (fail)
  all_goals
    go_wp2
    go_ret
    exact ⟨rfl, rfl⟩
set_option maxHeartbeats 1000000 in
theorem behind_any (g : Nat) (q : Option Addr) (cap : Nat) (l : List UInt8) (a : Nat) (t : Bool) (w : World) (h : Rd w g q cap l a t) :
    Calls Tryz.prog 141 #[.pointer (some ⟨g, 0, none⟩)] w fun e w' => e = .returned (.slice (cutA q cap a) (l.length - a) (cap - a)) ∧ w' = w.drew := by
  obtain ⟨c0, c1, c2⟩ := h.cells
  have h0 : (a : Int) ≤ (l.length : Int) := by have := h.2.2; omega
  have h1 : (l.length : Int) ≤ (cap : Int) := by have := h.2.1.2.1; omega
  have h2 : a ≤ cap := by omega
  clear h
  go_enter Tryz.func141, Tryz.ntmps141
  go_wp2
  go_region_held3 (fun w' => w'.cell? ⟨g, 0, none⟩ = some (.slice q l.length cap) ∧ w'.cell? ⟨g, 1, none⟩ = some (.int .i64 (a : Int))) (go_keep) (fail)
  all_goals go_wp2
  all_goals go_ret
  all_goals first | exact ⟨by rw [show cutA q a a = q from cutA_same q a]; rfl, rfl⟩ | exact ⟨by rw [cutA_ne q (by assumption)]; rfl, rfl⟩
/-- What is behind, and its beginning. -/
theorem cut_sl {w : World} {q : Option Addr} {cap : Nat} {l : List UInt8} (h : SlOf encB 1 w q cap l) (a n : Nat) (han : a + n ≤ l.length) : SlOf encB 1 w (cutA q cap a) (cap - a) ((l.drop a).take n) := by
  have hlen : ((l.drop a).take n).length = n := by simp; omega
  refine ⟨fun hq => ?_, by have := h.2.1; omega, by have := h.2.2.1; omega, fun hp => ?_⟩
  · have hq0 : q = none := by
      unfold cutA at hq
      split at hq
      · exact hq
      · simpa using hq
    have := h.1 hq0
    omega
  · obtain ⟨b, off, hq, hb, hA⟩ := h.2.2.2 (by omega)
    have hne : ¬ cap = a := by have := h.2.1; omega
    refine ⟨b, off + a, by rw [cutA_ne q hne, hq]; exact congrArg some (add_plain b off a), hb, fun j u hj => ?_⟩
    rw [flatB] at hj
    have hjl : j < n := by have := (List.getElem?_eq_some_iff.1 hj).1; simp at this; omega
    have h2 := hA (a + j) u (by
      rw [flatB, List.getElem?_map]
      rw [List.getElem?_map, List.getElem?_take_of_lt hjl, List.getElem?_drop] at hj
      exact hj)
    rw [← Nat.add_assoc] at h2
    exact h2
end Go.Proofs.YtfigjfmldpfjkaaGreat

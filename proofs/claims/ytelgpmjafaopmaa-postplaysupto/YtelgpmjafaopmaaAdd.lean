/- A list's Add. -/
import Derived.Test.YtelgpmjafaopmaaJoin2
namespace Go.Proofs.Ytelgpmjafaopmaa
open Go.RowKit Go.Sort Go.Shelf

theorem joinP (B : Nat) (q : Option Addr) (cap : Nat) (l : List Pt) (p : Option Addr) (c : Nat) (m : List Pt) (w : World) (h : OwnK encP 43 2 B w q cap l) (hs : SlOf encP 2 w p c m) (hst : Str l) (hsm : Str m) (hB : B ≤ w.heap.size) (hb : (l.length + m.length) * 16 ≤ 140737488355328) :
    Calls Try.prog 38 #[.slice q l.length cap, .slice p m.length c] w fun e w' => Joined B w q l m e w' := by
  by_cases h0 : m.length = 0
  · obtain rfl : m = [] := List.length_eq_zero_iff.1 h0
    exact join_none B q cap l p c w h hst
  · by_cases h1 : l.length = 0
    · obtain rfl : l = [] := List.length_eq_zero_iff.1 h1
      exact join_empty B q cap p c m w h hs hsm hB (by omega) (by simpa using hb)
    · obtain ⟨n1, hn1⟩ : ∃ n1, l.length = n1 + 1 := ⟨l.length - 1, by omega⟩
      obtain ⟨x, hx, _⟩ := get_at (l := l) (k := n1) (by omega)
      obtain ⟨y, hy, _⟩ := get_at (l := m) (k := 0) (by omega)
      by_cases hxy : cmpP x y < 0
      · exact join_behind B q cap l p c m w h hs hst hsm hB hb hn1 (by omega) hx hy hxy
      · obtain ⟨g, rfl, _⟩ := h.some_of (by omega)
        exact join_loop B g cap l p c m w h hs hst hsm hB hb hn1 (by omega) hx hy hxy
theorem ris_app (l m : List Pt) : ris (l ++ ris m) = ris (l ++ m) := ris_ext fun x => by rw [List.mem_append, List.mem_append, mem_ris]
theorem str_len_sub {l m : List Pt} (hl : Str l) (hm : Str m) (h : ∀ x, x ∈ l → x ∈ m) : l.length ≤ m.length := by
  have e : l = m.filter fun x => decide (x ∈ l) := str_ext hl (hm.sub List.filter_sublist) fun x => by
    rw [List.mem_filter, decide_eq_true_eq]
    exact ⟨fun hx => ⟨h x hx, hx⟩, fun hx => hx.2⟩
  rw [e]
  exact List.length_filter_le _ _
theorem ris_app_len {l : List Pt} (hl : Str l) (m : List Pt) : l.length ≤ (ris (l ++ m)).length ∧ (ris (l ++ m)).length ≤ l.length + m.length :=
  ⟨str_len_sub hl (str_ris _) fun x hx => mem_ris.2 (List.mem_append_left _ hx), by have := ris_len (l ++ m); rwa [List.length_append] at this⟩
theorem Lst.ne {w : World} {B L : Nat} {q : Option Addr} {cap : Nat} {l : List Pt} (h : Lst w B L q cap l) : some L ≠ q.map (·.block) := by
  rcases h.2.2 with ⟨h1, _⟩ | ⟨g, _, cur, hv, _, hblk, _⟩
  · injection h1 with h1; subst h1; simp
  · injection hv with h1
    subst h1
    intro e
    simp at e
    subst e
    rw [h.1] at hblk
    simp at hblk
/-- The box of a list is written anew. -/
theorem Lst.put {w w1 : World} {B L : Nat} {q q' : Option Addr} {cap cap' : Nat} {l l' : List Pt} (h : Lst w B L q cap l) (hs : Stays w w1 q q') (ho : OwnK encP 43 2 B w1 q' cap' l') : w1.heap[L]? = some (.cells #[.slice q l.length cap] 66 (0, 0)) ∧ Lst (w1.setCell ⟨L, 0, none⟩ (.slice q' l'.length cap')) B L q' cap' l' := by
  have h1 : w1.heap[L]? = some (.cells #[.slice q l.length cap] 66 (0, 0)) := (hs.1.block L h.lt h.ne).trans h.1
  refine ⟨h1, by rw [heap_setCell_same w1 L 0 _ 66 _ h1]; rfl, ?_⟩
  refine World.ownsRow.kept ho (grown_set w1 L 0 _) ?_
  rcases ho.2 with ⟨h2, _⟩ | ⟨g, _, cur, hv, _, hblk, _⟩
  · rw [h2]; exact Or.inl rfl
  · refine Or.inr ?_
    rw [hv]
    intro e
    simp [Value.ownBlock] at e
    subst e
    rw [h1] at hblk
    simp at hblk
theorem OwnK.fresh {B A : Nat} {w : World} {q : Option Addr} {cap : Nat} {l : List Pt} (h : OwnK encP 43 2 B w q cap l) (hA : A ≤ B) : q = none ∨ ∃ g, q = some ⟨g, 0, none⟩ ∧ A ≤ g := by
  rcases h.2 with ⟨h1, _⟩ | ⟨g, _, cur, hv, hB, _⟩
  · injection h1 with h1; exact Or.inl h1
  · injection hv with h1; exact Or.inr ⟨g, h1, Nat.le_trans hA hB⟩
/-- What Add and Drop leave: the list holds l'; of all else but its own row nothing has turned. -/
def Turned (B L : Nat) (w : World) (q : Option Addr) (l' : List Pt) (w' : World) : Prop :=
  ∃ q' cap' w1, Stays w w1 q q' ∧ Below B w w1 ∧ OwnK encP 43 2 B w1 q' cap' l' ∧ w' = w1.setCell ⟨L, 0, none⟩ (.slice q' l'.length cap')
set_option maxHeartbeats 2000000 in
set_option maxRecDepth 100000 in
theorem addL (B L : Nat) (q : Option Addr) (cap : Nat) (l : List Pt) (p : Option Addr) (c : Nat) (m : List Pt) (w : World) (h : Lst w B L q cap l) (hst : Str l) (hs : SlOf encP 2 w p c m) (hB : B ≤ w.heap.size) (hb : (l.length + m.length) * 16 ≤ 140737488355328) :
    Calls Try.prog 21 #[.pointer (some ⟨L, 0, none⟩), .slice p m.length c] w fun e w' => e = .returned (.int .i64 (((ris (l ++ m)).length - l.length : Nat) : Int)) ∧ Turned B L w q (ris (l ++ m)) w' := by
  have mixed : Try.prog.follows .mixedOrders = true := by kernel_rfl
  have c0 := h.cell
  have hri := risingP p c m (by omega) w.drew (hs.below (Below.refl _ _).drew)
  have hj := fun (W : World) (hbW : Below w.heap.size w W) (q1 : Option Addr) (cap1 : Nat) (ho1 : OwnK encP 43 2 w.heap.size W q1 cap1 (ris m)) => joinP B q cap l q1 cap1 (ris m) W (h.2.below hbW) ho1.ls hst (str_ris m) (Nat.le_trans hB hbW.size) (by have := ris_len m; omega)
  have hls := ris_app_len hst m
  obtain ⟨n, hn⟩ : ∃ n, (ris (l ++ m)).length - l.length = n := ⟨_, rfl⟩
  have hnw : IntKind.i64.wrap (((ris (l ++ m)).length : Int) - (l.length : Int)) = (n : Int) := by
    rw [show ((ris (l ++ m)).length : Int) - (l.length : Int) = (n : Int) by omega]; exact wrap_nat n (by omega)
  rw [hn]
  unfold Joined at hj
  simp only [ris_app] at hj
  have HL := hide h
  clear h hst hs hls hn
  generalize ris (l ++ m) = R at *
  have hc2 : ∀ (W1 : World), W1.heap[L]? = some (.cells #[.slice q l.length cap] 66 (0, 0)) → W1.cell? ⟨L, 0, none⟩ = some (.slice q l.length cap) ∧ W1.frozen? ⟨L, 0, none⟩ = false := fun W1 h1 => by unfold World.cell? World.frozen?; simp [h1]
  go_enter Try.func21, Try.ntmps21
  go_wp2
  go_region_with (first
    | (go_at_call 24; refine hri.mono ?_; rintro e w1 ⟨⟨q1, cap1, rfl, ho1⟩, hb0⟩; have hb1 := below_undrew hb0; clear hb0; have c1 := (hb1.cell (p := ⟨L, 0, none⟩) (unhide HL).lt).trans c0; have HO1 := hide ho1; have HB1 := hide hb1; clear ho1 hb1)
    | (go_at_call 38; refine (hj _ (unhide HB1) q1 cap1 (unhide HO1)).mono ?_; rintro e w2 ⟨q2, cap2, rfl, ho2, hb2, hs2⟩; have HO2 := hide ho2; have HB2 := hide (((unhide HB1).mono hB).trans hb2); have HS2 := hide (stays_pre (unhide HB1) hs2); have hput := (unhide HL).put (unhide HS2) (unhide HO2); obtain ⟨a0, f0⟩ := hc2 _ hput.1; have HP := hide hput.2; clear hput ho2 hb2 hs2))
  all_goals
    clear hri hj c1 hc2
    go_wp2
    go_ret
    exact ⟨rfl, q2, cap2, w2, unhide HS2, unhide HB2, unhide HO2, rfl⟩
end Go.Proofs.Ytelgpmjafaopmaa

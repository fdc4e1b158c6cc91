/- The reference's disk: drop. -/
import Derived.Test.YtfigjfmldpfjkaaGreatR4
import Derived.Shelf.SlGeneric
import Derived.Shelf.Strconv.Clone
import Derived.Shelf.Sort.Plain
import Derived.Shelf.Slices.In.SortNone
import Derived.Test.YtfigjfmldpfjkaaGreatProg
import Derived.Test.YtfigjfmldpfjkaaGreatZab
import Derived.Shelf.SlIter.Nil
import Derived.Ground.GgzProg
namespace Go.Proofs.YtfigjfmldpfjkaaGreat
open Go.RowKit Go.Sort Go.Shelf

theorem drop_take_len (l : List Rf) (nm : ByteArray) (k : Nat) : (dropR (l.take k) nm).length ≤ l.length := Nat.le_trans (drop_len _ _) (by rw [List.length_take]; omega)
set_option maxHeartbeats 4000000 in
set_option maxRecDepth 100000 in
theorem rdrop_any {P : Nat → Prop} {w : World} {g c : Nat} {r : Rk} {q : Option Addr} (h : RIn P w g r q c) (nm : ByteArray) (hl : r.fs.length ≤ 1000000) :
    Calls Tryz.prog 86 #[.pointer (some ⟨g, 0, none⟩), .string nm] w fun e w' => (∃ v, e = .returned v) ∧ (∃ q' c', RIn (fun i => P i ∨ w.heap.size ≤ i) w' g { r with fs := dropR r.fs nm } q' c') ∧ w.grownBy w' (some g) := by
  have hbox : ∀ W, Below w.heap.size w W → W.heap[g]? = some (.cells #[.slice q r.fs.length c, .int .i64 (r.acts : Int), .bool r.off, .int .i64 (r.named : Int), .int .i64 r.part] 30 (0, 0)) := fun W bW => (bW.block g h.glt).trans h.box
  have hrw : ∀ W, Below w.heap.size w W → SlOf encF 3 W q c r.fs := fun W bW => h.row.1.below bW
  have hend : ∀ (W : World) (q' : Option Addr) (c' N : Nat), Below w.heap.size w W → OwnK encF 105 3 w.heap.size W q' c' (dropR r.fs nm) → (dropR r.fs nm).length = N → _ := fun W q' c' N bW ho hN => h.rerow (Below.refl _ _) bW ho hN (fun x hx => h.file x (mem_drop.1 hx).1)
  have HRW := hide hrw
  have HEND := hide hend
  have hgl := h.glt
  have cg : ∀ W, Below w.heap.size w W → W.cell? ⟨g, 0, none⟩ = some (.slice q r.fs.length c) ∧ W.frozen? ⟨g, 0, none⟩ = false := fun W bW => ⟨(cells5 (hbox W bW)).1.1, frozen_free (hbox W bW)⟩
  have HCG := hide cg
  clear h hbox hrw hend cg
  go_enter Tryz.func86, Tryz.ntmps86
  go_wp2
  go_loopw [4, 5] (fun v4 v5 wr => ∃ (k : Nat) (q2 : Option Addr) (cap : Nat) (L : List Rf), k ≤ r.fs.length ∧ v5 = .int .i64 (k : Int) ∧ v4 = .slice q2 L.length cap ∧ Hid (dropR (r.fs.take k) nm = L) ∧ Hid (OwnK encF 105 3 w.heap.size wr q2 cap L) ∧ Hid (Below w.heap.size w wr)) (fun _ v5 _ => r.fs.length - (intOf v5).toNat)
  case atStart => exact ⟨0, none, 0, [], Nat.zero_le _, rfl, rfl, hide rfl, hide (OwnK.nil _ _), hide (Below.refl _ _)⟩
  case round =>
    obtain ⟨k, q2, cap, L, hk, rfl, rfl, HL, HO, HB⟩ := hrel
    have hlen : L.length ≤ r.fs.length := by have := drop_take_len r.fs nm k; rw [unhide HL] at this; exact this
    have hsr : w.heap.size ≤ wr.heap.size := (unhide HB).size
    obtain ⟨cg0, fg0⟩ := unhide HCG wr (unhide HB)
    by_cases hlt : k < r.fs.length
    · obtain ⟨x, hx, _⟩ := get_at hlt
      have hst := drop_snoc (nm := nm) hx
      rw [unhide HL] at hst
      have ki0 : (0 : Int) ≤ (k : Int) := by omega
      have ki1 : (k : Int) < (r.fs.length : Int) := by omega
      obtain ⟨b, off, hq, _, d0, d1, d2⟩ := fileAt (unhide HRW wr (unhide HB)) hx
      subst hq
      clear hx
      by_cases hc : x.nm = nm
      · rw [if_pos hc] at hst
        have HST := hide hst
        have he := tl_eq hc
        clear hst hc
        go_wp2
        go_roundw
        case rel => exact ⟨k + 1, q2, cap, L, by omega, by go_num, rfl, HST, HO, HB⟩
        case measure => simp [intOf]; omega
      · rw [if_neg hc] at hst
        have HST := hide hst
        have he := tl_ne hc
        clear hst hc
        go_wp2_with (at_builtin; refine wpList_app rowF rfl _ _ rfl w.heap.size q2 cap L (some ⟨_, 0, none⟩) 1 [x] L.length 1 (L.length + 1) rfl rfl rfl rfl rfl ((unhide HO).below ((Below.refl _ _).alloc (Nat.le_refl _) _)) (srcF (heap_alloc_new _ _)) (by unfold maxLen; omega) (by omega) (by simp; omega) ?_; intro q3 c3 w3 o_w3 b_w3 _ _; have O3 := hide o_w3; have B3 := hide (((unhide HB).alloc (unhide HB).size _).trans b_w3);  clear o_w3 b_w3)
        go_roundw
        case rel => exact ⟨k + 1, q3, c3, L ++ [x], by omega, by go_num, by simp, HST, O3, B3⟩
        case measure => simp [intOf]; omega
    · obtain rfl : k = r.fs.length := by omega
      have ki1 : ¬ (r.fs.length : Int) < (r.fs.length : Int) := by omega
      have hfin : dropR r.fs nm = L := by rw [← unhide HL, List.take_length]
      have HF2 := hide hfin
      clear hfin
      go_wp2
      go_end0
      obtain ⟨R1, R2⟩ := unhide HEND wr q2 cap L.length (unhide HB) (by rw [unhide HF2]; exact unhide HO) (by rw [unhide HF2])
      exact ⟨⟨_, rfl⟩, ⟨q2, cap, R1⟩, R2⟩
end Go.Proofs.YtfigjfmldpfjkaaGreat
namespace Go.Proofs
open Go.Shelf
def Tryz.cloneStr_ren : Go.Shelf.Ren := ⟨fun | 316 => 128 | n => n, fun | 9 => 9 | 3 => 3 | 4 => 4 | 37 => 40 | 0 => 0 | 127 => 180 | 5 => 5 | n => n, fun | n => n⟩
theorem Tryz.cloneStr : Go.Proofs.LaysM.n316 Tryz.prog Tryz.cloneStr_ren := {
  mixed := by kernel_rfl
  f316 := Tryz.func128.trans (congrArg some (by kernel_rfl))
  t0 := Tryz.underlying0
  a0 := Tryz.isAgg0
  z0 := Tryz.sizeOf0
  v0 := Tryz.zeroValue0
  t3 := Tryz.underlying3
  a3 := Tryz.isAgg3
  z3 := Tryz.sizeOf3
  v3 := Tryz.zeroValue3
  t4 := Tryz.underlying4
  a4 := Tryz.isAgg4
  z4 := Tryz.sizeOf4
  v4 := Tryz.zeroValue4
  t9 := Tryz.underlying9
  a9 := Tryz.isAgg9
  z9 := Tryz.sizeOf9
  v9 := Tryz.zeroValue9
  t37 := Tryz.underlying40
  a37 := Tryz.isAgg40
  z37 := Tryz.sizeOf40
  v37 := Tryz.zeroValue40
  t127 := Tryz.underlying180
  a127 := Tryz.isAgg180
  z127 := Tryz.sizeOf180
  v127 := Tryz.zeroValue180
  t5 := Tryz.underlying5
  a5 := Tryz.isAgg5
  z5 := Tryz.sizeOf5
  v5 := Tryz.zeroValue5
  i0 := by kernel_rfl
  i3 := by kernel_rfl
  i4 := by kernel_rfl
  i5 := by kernel_rfl
  i9 := by kernel_rfl
  i37 := by kernel_rfl
  i127 := by kernel_rfl }
def Tryz.sortS_ren : Go.Shelf.Ren := ⟨fun | 190 => 103 | 125 => 120 | 258 => 119 | 128 => 139 | 129 => 140 | 302 => 130 | 303 => 131 | 304 => 132 | 305 => 133 | 306 => 134 | 307 => 135 | 308 => 136 | 309 => 137 | 310 => 138 | 333 => 143 | 329 => 144 | 330 => 145 | 334 => 146 | 335 => 147 | 336 => 148 | 344 => 149 | n => n, fun | 31 => 75 | 9 => 9 | 3 => 3 | 46 => 156 | 0 => 0 | 51 => 165 | 53 => 178 | 4 => 4 | 183 => 170 | 182 => 169 | 131 => 106 | 5 => 5 | 218 => 183 | 222 => 187 | 228 => 189 | 229 => 190 | n => n, fun | n => n⟩
theorem Tryz.sortS : Go.Proofs.Lays.n190 Tryz.prog Tryz.sortS_ren := {
  mixed := by kernel_rfl
  f125 := Tryz.func120.trans (congrArg some (by kernel_rfl))
  f128 := Tryz.func139.trans (congrArg some (by kernel_rfl))
  f129 := Tryz.func140.trans (congrArg some (by kernel_rfl))
  f190 := Tryz.func103.trans (congrArg some (by kernel_rfl))
  f258 := Tryz.func119.trans (congrArg some (by kernel_rfl))
  f302 := Tryz.func130.trans (congrArg some (by kernel_rfl))
  f303 := Tryz.func131.trans (congrArg some (by kernel_rfl))
  f304 := Tryz.func132.trans (congrArg some (by kernel_rfl))
  f305 := Tryz.func133.trans (congrArg some (by kernel_rfl))
  f306 := Tryz.func134.trans (congrArg some (by kernel_rfl))
  f307 := Tryz.func135.trans (congrArg some (by kernel_rfl))
  f308 := Tryz.func136.trans (congrArg some (by kernel_rfl))
  f309 := Tryz.func137.trans (congrArg some (by kernel_rfl))
  f310 := Tryz.func138.trans (congrArg some (by kernel_rfl))
  f329 := Tryz.func144.trans (congrArg some (by kernel_rfl))
  f330 := Tryz.func145.trans (congrArg some (by kernel_rfl))
  f333 := Tryz.func143.trans (congrArg some (by kernel_rfl))
  f334 := Tryz.func146.trans (congrArg some (by kernel_rfl))
  f335 := Tryz.func147.trans (congrArg some (by kernel_rfl))
  f336 := Tryz.func148.trans (congrArg some (by kernel_rfl))
  f344 := Tryz.func149.trans (congrArg some (by kernel_rfl))
  t0 := Tryz.underlying0
  a0 := Tryz.isAgg0
  z0 := Tryz.sizeOf0
  v0 := Tryz.zeroValue0
  t3 := Tryz.underlying3
  a3 := Tryz.isAgg3
  z3 := Tryz.sizeOf3
  v3 := Tryz.zeroValue3
  t4 := Tryz.underlying4
  a4 := Tryz.isAgg4
  z4 := Tryz.sizeOf4
  v4 := Tryz.zeroValue4
  t5 := Tryz.underlying5
  a5 := Tryz.isAgg5
  z5 := Tryz.sizeOf5
  v5 := Tryz.zeroValue5
  t9 := Tryz.underlying9
  a9 := Tryz.isAgg9
  z9 := Tryz.sizeOf9
  v9 := Tryz.zeroValue9
  t31 := Tryz.underlying75
  a31 := Tryz.isAgg75
  z31 := Tryz.sizeOf75
  v31 := Tryz.zeroValue75
  t46 := Tryz.underlying156
  a46 := Tryz.isAgg156
  z46 := Tryz.sizeOf156
  v46 := Tryz.zeroValue156
  t51 := Tryz.underlying165
  a51 := Tryz.isAgg165
  z51 := Tryz.sizeOf165
  v51 := Tryz.zeroValue165
  t53 := Tryz.underlying178
  a53 := Tryz.isAgg178
  z53 := Tryz.sizeOf178
  v53 := Tryz.zeroValue178
  t131 := Tryz.underlying106
  a131 := Tryz.isAgg106
  z131 := Tryz.sizeOf106
  v131 := Tryz.zeroValue106
  t182 := Tryz.underlying169
  a182 := Tryz.isAgg169
  z182 := Tryz.sizeOf169
  v182 := Tryz.zeroValue169
  t183 := Tryz.underlying170
  a183 := Tryz.isAgg170
  z183 := Tryz.sizeOf170
  v183 := Tryz.zeroValue170
  t218 := Tryz.underlying183
  a218 := Tryz.isAgg183
  z218 := Tryz.sizeOf183
  v218 := Tryz.zeroValue183
  t222 := Tryz.underlying187
  a222 := Tryz.isAgg187
  z222 := Tryz.sizeOf187
  v222 := Tryz.zeroValue187
  t228 := Tryz.underlying189
  a228 := Tryz.isAgg189
  z228 := Tryz.sizeOf189
  v228 := Tryz.zeroValue189
  t229 := Tryz.underlying190
  a229 := Tryz.isAgg190
  z229 := Tryz.sizeOf190
  v229 := Tryz.zeroValue190 }
end Go.Proofs
namespace Go.Proofs.YtfigjfmldpfjkaaGreat
open Go.RowKit Go.Sort Go.Shelf

theorem strClone (s : ByteArray) (hs : s.size ≤ 281474976710656) (w : World) : Calls Tryz.prog 115 #[.string s] w fun e w' => e = .returned (.string s) ∧ Below w.heap.size w w' := by
  have hcon := Any.stringslite_Clone Tryz.cloneStr s w hs
  change Calls Tryz.prog 128 _ _ _ at hcon
  go_enter Tryz.func115, Tryz.ntmps115
  go_wp2_with (go_at_call 128; refine hcon.mono ?_; rintro e w1 ⟨rfl, b1⟩; have B1 := hide b1; clear b1)
  go_ret
  exact ⟨rfl, unhide B1⟩
def upF {α : Type} (f : ByteArray → α) (nm : ByteArray) (x : α) : ByteArray → α := fun k => if k = nm then x else f k
theorem upF_same {α : Type} (f : ByteArray → α) (nm : ByteArray) (x : α) : upF f nm x nm = x := if_pos rfl
theorem upF_ne {α : Type} (f : ByteArray → α) {nm k : ByteArray} (x : α) (h : k ≠ nm) : upF f nm x k = f k := if_neg h
theorem FM.ext {w : World} {m n : Nat} {f f' : ByteArray → Option Nat} (h : FM w m n f) (he : ∀ k, f k = f' k) : FM w m n f' := by
  obtain rfl : f = f' := funext he
  exact h
theorem FM.same {w w' : World} {m n : Nat} {f : ByteArray → Option Nat} (h : FM w m n f) (he : w'.heap[m]? = w.heap[m]?) : FM w' m n f := by
  obtain ⟨D, ⟨es, cl, hb, hr⟩, h2⟩ := h
  exact ⟨D, ⟨es, cl, he.trans hb, hr⟩, h2⟩
theorem own_same {B : Nat} {w w' : World} {q : Option Addr} {cap : Nat} {l : List UInt8} (h : OwnK encB 5 1 B w q cap l) (he : ∀ p, q = some p → w'.heap[p.block]? = w.heap[p.block]?) : OwnK encB 5 1 B w' q cap l := by
  refine ⟨h.1, ?_⟩
  rcases h.2 with h0 | ⟨g, cp, cur, hv, hB, hblk, hr⟩
  · exact Or.inl h0
  · refine Or.inr ⟨g, cp, cur, hv, hB, ?_, hr⟩
    injection hv with h1
    exact (he _ h1).trans hblk
theorem FlAt.same {B : Nat → Prop} {w w' : World} {h c : Nat} {q : Option Addr} {fl : Fl} (hf : FlAt B w h q c fl) (h1 : w'.heap[h]? = w.heap[h]?) (h2 : ∀ p, q = some p → w'.heap[p.block]? = w.heap[p.block]?) : FlAt B w' h q c fl :=
  ⟨hf.1, h1.trans hf.2.1, own_same hf.2.2.1 h2, hf.2.2.2⟩
theorem FlAt.lt {B : Nat → Prop} {w : World} {h c : Nat} {q : Option Addr} {fl : Fl} (hf : FlAt B w h q c fl) : h < w.heap.size := (Array.getElem?_eq_some_iff.1 hf.2.1).1
theorem FlAt.row_lt {B : Nat → Prop} {w : World} {h c : Nat} {q : Option Addr} {fl : Fl} (hf : FlAt B w h q c fl) {p : Addr} (hp : q = some p) : p.block < w.heap.size := by
  obtain ⟨cur, hc⟩ := own_cells hf.2.2.1 hp
  exact (Array.getElem?_eq_some_iff.1 hc).1
/-- A file lies under a name: it was there, or it is new; it is apart from all the others. -/
theorem DkIn.put {B : Nat → Prop} {w w' : World} {g m : Nat} {s : Dk} {h : ByteArray → Nat} {q : ByteArray → Option Addr} {c : ByteArray → Nat} (hd : DkIn B w g s m h q c) {nm : ByteArray} {nh c0 : Nat} {q0 : Option Addr} {fl0 : Fl}
    (hg : w.grownBy w' (some m)) (hm : FM w' m (s.n + 1) (upd (fun k => (s.get k).map fun _ => h k) nm (some nh))) (hf : FlAt B w nh q0 c0 fl0)
    (hap : ∀ k fl, k ≠ nm → s.get k = some fl → h k ≠ nh ∧ ∀ p p', q k = some p → q0 = some p' → p.block ≠ p'.block) :
    DkIn B w' g { s with get := upd s.get nm (some fl0), n := s.n + 1 } m (upF h nm nh) (upF q nm q0) (upF c nm c0) := by
  have hmap : ∀ (k : Nat) (cur : Array Value) (t : TypeId), w.heap[k]? = some (.cells cur t (0, 0)) → k ≠ m := fun k cur t hk e => by
    subst e
    obtain ⟨es, cl, h9⟩ := hd.map.is_map
    rw [hk] at h9
    cases h9
  have hst : ∀ (k : Nat) (cur : Array Value) (t : TypeId), w.heap[k]? = some (.cells cur t (0, 0)) → w'.heap[k]? = w.heap[k]? := fun k cur t hk => hg.block k (Array.getElem?_eq_some_iff.1 hk).1 (by intro e; injection e with e; exact hmap k cur t hk e)
  have hfs : ∀ {h c : Nat} {q : Option Addr} {fl : Fl}, FlAt B w h q c fl → FlAt B w' h q c fl := fun hf => hf.same (hst _ _ _ hf.2.1) (fun p hp => by obtain ⟨cur, hc⟩ := own_cells hf.2.2.1 hp; exact hst _ _ _ hc)
  refine ⟨hd.bg, hd.bm, hd.small, (hst _ _ _ hd.box).trans hd.box, ?_, ?_, ?_⟩
  · refine hm.ext fun k => ?_
    by_cases e : k = nm
    · subst e; simp only [upd_same, upF_same]; rfl
    · simp only [upd_ne _ _ e, upF_ne _ _ e]
  · intro k fl hk
    simp only at hk
    by_cases e : k = nm
    · subst e
      rw [upd_same] at hk
      cases hk
      simp only [upF_same]
      exact hfs hf
    · rw [upd_ne _ _ e] at hk
      simp only [upF_ne _ _ e]
      exact hfs (hd.file k fl hk)
  · intro k k' fl fl' hk hk' hne
    simp only at hk hk'
    by_cases e : k = nm
    · by_cases e' : k' = nm
      · exact absurd (e.trans e'.symm) hne
      · rw [upd_ne _ _ e'] at hk'
        obtain ⟨a1, a2⟩ := hap k' fl' e' hk'
        subst e
        simp only [upF_same, upF_ne _ _ e']
        exact ⟨fun h => a1 h.symm, fun p p' h1 h2 h3 => a2 p' p h2 h1 h3.symm⟩
    · rw [upd_ne _ _ e] at hk
      by_cases e' : k' = nm
      · subst e'
        simp only [upF_same, upF_ne _ _ e]
        exact hap k fl e hk
      · rw [upd_ne _ _ e'] at hk'
        simp only [upF_ne _ _ e, upF_ne _ _ e']
        exact hd.apart k k' fl fl' hk hk' hne
/-- A file goes. -/
theorem DkIn.del {B : Nat → Prop} {w w' : World} {g m : Nat} {s : Dk} {h : ByteArray → Nat} {q : ByteArray → Option Addr} {c : ByteArray → Nat} (hd : DkIn B w g s m h q c) {nm : ByteArray}
    (hg : w.grownBy w' (some m)) (hm : FM w' m s.n (upd (fun k => (s.get k).map fun _ => h k) nm none)) : DkIn B w' g { s with get := upd s.get nm none } m h q c := by
  have hst : ∀ (k : Nat) (cur : Array Value) (t : TypeId), w.heap[k]? = some (.cells cur t (0, 0)) → w'.heap[k]? = w.heap[k]? := fun k cur t hk => hg.block k (Array.getElem?_eq_some_iff.1 hk).1 (by
    intro e; injection e with e
    subst e
    obtain ⟨es, cl, h9⟩ := hd.map.is_map
    rw [hk] at h9
    cases h9)
  have hfs : ∀ {h c : Nat} {q : Option Addr} {fl : Fl}, FlAt B w h q c fl → FlAt B w' h q c fl := fun hf => hf.same (hst _ _ _ hf.2.1) (fun p hp => by obtain ⟨cur, hc⟩ := own_cells hf.2.2.1 hp; exact hst _ _ _ hc)
  have hget : ∀ k fl, upd s.get nm none k = some fl → s.get k = some fl := fun k fl hk => by
    by_cases e : k = nm
    · subst e; rw [upd_same] at hk; cases hk
    · rwa [upd_ne _ _ e] at hk
  refine ⟨hd.bg, hd.bm, hd.small, (hst _ _ _ hd.box).trans hd.box, ?_, fun k fl hk => hfs (hd.file k fl (hget k fl hk)), fun k k' fl fl' hk hk' => hd.apart k k' fl fl' (hget _ _ hk) (hget _ _ hk')⟩
  refine hm.ext fun k => ?_
  by_cases e : k = nm
  · subst e; simp only [upd_same]; rfl
  · simp only [upd_ne _ _ e]
/-- A file is written anew: its box, its row. -/
theorem DkIn.refile {B : Nat → Prop} {w w' : World} {g m : Nat} {s : Dk} {h : ByteArray → Nat} {q : ByteArray → Option Addr} {c : ByteArray → Nat} (hd : DkIn B w g s m h q c) {nm : ByteArray} {fl fl' : Fl} (hf : s.get nm = some fl) {q' : Option Addr} {c' : Nat}
    (hk : ∀ i, i < w.heap.size → i ≠ h nm → (∀ p, q nm = some p → i ≠ p.block) → w'.heap[i]? = w.heap[i]?) (hn : FlAt B w' (h nm) q' c' fl')
    (hrow : ∀ p', q' = some p' → (∃ p, q nm = some p ∧ p.block = p'.block) ∨ w.heap.size ≤ p'.block) :
    DkIn B w' g { s with get := upd s.get nm (some fl') } m h (upF q nm q') (upF c nm c') := by
  have f0 := hd.file nm fl hf
  have hbox : w'.heap[g]? = w.heap[g]? := by
    refine hk g (Array.getElem?_eq_some_iff.1 hd.box).1 ?_ ?_
    · intro e
      have h1 := f0.2.1
      rw [← e, hd.box] at h1
      injection h1 with h1; injection h1 with _ h1; cases h1
    · intro p hp e
      obtain ⟨cur, h1⟩ := own_cells f0.2.2.1 hp
      rw [← e, hd.box] at h1
      injection h1 with h1; injection h1 with _ h1; cases h1
  have hmp : w'.heap[m]? = w.heap[m]? := by
    obtain ⟨es, cl, h9⟩ := hd.map.is_map
    refine hk m hd.map.lt ?_ ?_
    · intro e
      have h1 := f0.2.1
      rw [← e, h9] at h1
      cases h1
    · intro p hp e
      obtain ⟨cur, h1⟩ := own_cells f0.2.2.1 hp
      rw [← e, h9] at h1
      cases h1
  have hoth : ∀ k fl2, k ≠ nm → s.get k = some fl2 → FlAt B w' (h k) (q k) (c k) fl2 := fun k fl2 hne hk2 => by
    have f2 := hd.file k fl2 hk2
    obtain ⟨a1, a2⟩ := hd.apart k nm fl2 fl hk2 hf hne
    refine f2.same (hk _ f2.lt a1 ?_) (fun p hp => hk _ (f2.row_lt hp) ?_ ?_)
    · intro p hp e
      obtain ⟨cur, h1⟩ := own_cells f0.2.2.1 hp
      have h2 := f2.2.1
      rw [e, h1] at h2
      injection h2 with h2; injection h2 with _ h2; cases h2
    · intro e
      obtain ⟨cur, h1⟩ := own_cells f2.2.2.1 hp
      rw [e, f0.2.1] at h1
      injection h1 with h1; injection h1 with _ h1; cases h1
    · intro p' hp'
      exact a2 p p' hp hp'
  refine ⟨hd.bg, hd.bm, hd.small, hbox.trans hd.box, ?_, ?_, ?_⟩
  · refine (hd.map.same hmp).ext fun k => ?_
    by_cases e : k = nm
    · subst e; simp only [upd_same, hf]; rfl
    · simp only [upd_ne _ _ e]
  · intro k fl2 hk2
    simp only at hk2
    by_cases e : k = nm
    · subst e
      rw [upd_same] at hk2
      cases hk2
      simp only [upF_same]
      exact hn
    · rw [upd_ne _ _ e] at hk2
      simp only [upF_ne _ _ e]
      exact hoth k fl2 e hk2
  · intro k k' fl2 fl3 hk2 hk3 hne
    simp only at hk2 hk3
    have key : ∀ k fl2, k ≠ nm → s.get k = some fl2 → ∀ p p', q k = some p → q' = some p' → p.block ≠ p'.block := fun k fl2 e hk2 p p' hp hp' => by
      rcases hrow p' hp' with ⟨p0, h0, h1⟩ | h1
      · rw [← h1]; exact (hd.apart k nm fl2 fl hk2 hf e).2 p p0 hp h0
      · have := (hd.file k fl2 hk2).row_lt hp; omega
    by_cases e : k = nm
    · by_cases e' : k' = nm
      · exact absurd (e.trans e'.symm) hne
      · rw [upd_ne _ _ e'] at hk3
        subst e
        simp only [upF_same, upF_ne _ _ e']
        exact ⟨fun h => (hd.apart k' k fl3 fl hk3 hf e').1 h.symm, fun p p' h1 h2 h3 => key k' fl3 e' hk3 p' p h2 h1 h3.symm⟩
    · rw [upd_ne _ _ e] at hk2
      by_cases e' : k' = nm
      · subst e'
        simp only [upF_same, upF_ne _ _ e]
        exact ⟨(hd.apart k k' fl2 fl hk2 hf e).1, key k fl2 e hk2⟩
      · rw [upd_ne _ _ e'] at hk3
        simp only [upF_ne _ _ e, upF_ne _ _ e']
        exact hd.apart k k' fl2 fl3 hk2 hk3 hne
end Go.Proofs.YtfigjfmldpfjkaaGreat
namespace Go.Proofs.YtfigjfmldpfjkaaGreat
open Go.RowKit Go.Sort Go.Shelf

set_option maxHeartbeats 1000000 in
set_option maxRecDepth 100000 in
/-- put: the map alone turns, besides new memory. -/
theorem put_any {w : World} {g m n : Nat} {f : ByteArray → Option Nat} {a0 a1 a2 a3 : Value} (hbox : w.heap[g]? = some (.cells #[a0, a1, a2, a3, .map (some m)] 51 (0, 0))) (hm : FM w m n f) (hn : n < maxLen) (nm : ByteArray) (hs : nm.size ≤ 32) (nh : Nat) :
    Calls Tryz.prog 94 #[.pointer (some ⟨g, 0, none⟩), .string nm, .pointer (some ⟨nh, 0, none⟩)] w fun e w' => (∃ v, e = .returned v) ∧ ∃ w1, Below w.heap.size w w1 ∧ FM w' m (n + 1) (upd f nm (some nh)) ∧ w1.grownBy w' (some m) := by
  have hcl := fun W : World => strClone nm (by omega) W
  have hcell : ∀ W, Below w.heap.size w W → W.cell? ⟨g, 4, none⟩ = some (.map (some m)) := fun W hW => (cells5 ((hW.block g (Array.getElem?_eq_some_iff.1 hbox).1).trans hbox)).1.2.2.2.2
  have hgm : g ≠ m := fun e => by
    subst e
    obtain ⟨es, cl, h9⟩ := hm.is_map
    rw [hbox] at h9
    cases h9
  have hput : ∀ W, Below w.heap.size w W → ∃ w', (Instr.mapUpdate 49 (.map (some m)) (.string nm) (.pointer (some ⟨nh, 0, none⟩))).run Tryz.prog W = .ok () w' ∧ w'.cell? ⟨g, 4, none⟩ = some (.map (some m)) ∧ FM w' m (n + 1) (upd f nm (some nh)) ∧ W.grownBy w' (some m) := fun W hW => by
    obtain ⟨w', h1, h2, h3⟩ := (hm.below hW).put hn (nm := nm) (by unfold maxLen; omega) nh
    have hlt := (Array.getElem?_eq_some_iff.1 hbox).1
    exact ⟨w', h1, (cells5 ((h3.block g (Nat.lt_of_lt_of_le hlt hW.size) (by intro e; injection e with e; exact hgm e)).trans ((hW.block g hlt).trans hbox))).1.2.2.2.2, h2, h3⟩
  have HC := hide hcell
  have HP := hide hput
  have c0 := hcell w (Below.refl _ _)
  clear hbox hm hcell hput hgm
  go_enter Tryz.func94, Tryz.ntmps94
  go_wp2
  go_region_held3 (fun W => W.cell? ⟨g, 4, none⟩ = some (.map (some m)))
    (first | with_reducible exact unhide K1 | with_reducible exact unhide K2 | exact unhide HC _ (unhide B1) | exact unhide HC _ (Below.refl _ _).drew | exact unhide HC _ (Below.refl _ _))
    ((go_at_call 115; refine (hcl _).mono ?_; rintro e w1 ⟨rfl, b1⟩; have b1' := below_undrew b1; obtain ⟨v1, r1, k1, f1, g1⟩ := unhide HP w1 b1'; obtain ⟨v2, r2, k2, f2, g2⟩ := unhide HP w1.drew b1'.drew; have B1 := hide b1'; have K1 := hide k1; have K2 := hide k2; clear k1 k2; have F1 := hide f1; have F2 := hide f2; have G1 := hide g1; have G2 := hide g2; clear b1 b1' f1 f2 g1 g2))
  all_goals
    go_wp2
    go_end0
    first | exact ⟨⟨_, rfl⟩, w1, unhide B1, unhide F1, unhide G1⟩ | exact ⟨⟨_, rfl⟩, w1.drew, (unhide B1).drew, unhide F2, unhide G2⟩
end Go.Proofs.YtfigjfmldpfjkaaGreat
namespace Go.Proofs.YtfigjfmldpfjkaaGreat
open Go.RowKit Go.Sort Go.Shelf

theorem own_block (q : Option Addr) (n c : Nat) : (Value.slice q n c).ownBlock = q.map (·.block) := by cases q <;> rfl
theorem wpList_appW {ops : Array Oper} {rest : List Oper} {o : Oper} {a : Act} {w : World} {Q : Exit → Act → World → Prop} (hgd : o.guard = none) (s x : Operand)
    (ho : o.op = .call { callee := .builtin .append, args := #[s, x], argTypes := #[40, 40] }) (B : Nat) (q : Option Addr) (cap : Nat) (l : List UInt8) (p : Option Addr) (c : Nat) (m : List UInt8) (n n' N : Nat) (hn : l.length = n) (hn' : m.length = n') (hN : n + n' = N)
    (es : a.eval s = .slice q n cap) (ex : a.eval x = .slice p n' c) (hown : OwnK encB 5 1 B w q cap l) (hs : SrcK encB 1 w p c m) (hm : N ≤ maxLen) (hb : N ≤ 140737488355328) (hB : B ≤ w.heap.size)
    (h : ∀ q' cap' w', OwnK encB 5 1 B w' q' cap' (l ++ m) → w.grownBy w' (q.map (·.block)) → (q'.map (·.block) = q.map (·.block) ∨ ∀ g, q'.map (·.block) = some g → w.heap.size ≤ g) → wpList Tryz.prog ops Q rest (a.put o.dst (.slice q' N cap')) w') : wpList Tryz.prog ops Q (o :: rest) a w := by
  subst hn hn' hN
  obtain ⟨i0, hi, hz0, hz1, hz2⟩ := info_parts Tryz.info5
  refine wpList_plain hgd fun K hK => ?_
  cases p with
  | none =>
    obtain ⟨h0, rfl⟩ := hs.1 rfl
    obtain rfl : m = [] := List.length_eq_zero_iff.1 h0
    have hr := run_append_owned_none (P := Tryz.prog) (w := w) B 40 o.type 5 i0 1 Tryz.underlying40 hi _ _ _ hown
    unfold Oper.wp execOp
    simp only [ho, resolve, invoke, builtin, Sem.run_bind, Sem.run_pure, Result.andThen_ok, List.map_toArray, List.map_cons, List.map_nil, List.length_nil, es, ex, hr]
    exact hK _ _ (h q cap w (by simpa using hown) (grown_refl _ _) (Or.inl rfl))
  | some ad =>
    obtain ⟨v', w', hr, ho2, hg, _, hat⟩ := run_append_own_at (P := Tryz.prog) w B 40 o.type 5 i0 (.int .u8 0) 1 1 Tryz.underlying40 hi hz0 hz1 hz2 rfl (by decide) _ _ _ hown ad m.length c (flatK encB 1 m.toArray).toList (by simp) (hs.2 ad rfl) (rowB.one m) hm (by omega) hB
    obtain ⟨q', cap', rfl, _⟩ := OwnK.shape ho2
    rw [own_block] at hg
    rw [own_block, own_block] at hat
    unfold Oper.wp execOp
    simp only [ho, resolve, invoke, builtin, Sem.run_bind, Sem.run_pure, Result.andThen_ok, List.map_toArray, List.map_cons, List.map_nil, es, ex, hr]
    refine hK _ _ (h q' cap' w' ?_ hg ?_)
    · unfold OwnK
      rw [flat_app encB 1 (by decide), List.length_append]
      exact ho2
    · rcases hat with h1 | h1
      · exact Or.inl h1
      · exact Or.inr fun g hg => by rw [h1] at hg; injection hg with hg; omega
/-- The file's row has grown; its box is written. -/
theorem refile_app {B : Nat → Prop} {w w1 : World} {g m : Nat} {s : Dk} {h : ByteArray → Nat} {q : ByteArray → Option Addr} {c : ByteArray → Nat} (hd : DkIn B w g s m h q c) {nm : ByteArray} {fl : Fl} (hf : s.get nm = some fl) {q' : Option Addr} {cap' : Nat} {data : List UInt8}
    (ho : OwnK encB 5 1 0 w1 q' cap' (fl.bytes ++ data)) (hg : w.grownBy w1 ((q nm).map (·.block))) (hat : q'.map (·.block) = (q nm).map (·.block) ∨ ∀ k, q'.map (·.block) = some k → w.heap.size ≤ k) (hB : Sub B w) :
    w1.heap[h nm]? = some (.cells #[.slice (q nm) fl.bytes.length (c nm), .int .i64 (fl.lasts : Int)] 118 (0, 0)) ∧ ∀ N, (fl.bytes ++ data).length = N →
      DkIn B (w1.setCell ⟨h nm, 0, none⟩ (.slice q' N cap')) g { s with get := upd s.get nm (some ⟨fl.bytes ++ data, fl.lasts⟩) } m h (upF q nm q') (upF c nm cap') ∧ Kpt B w (w1.setCell ⟨h nm, 0, none⟩ (.slice q' N cap')) := by
  have f0 := hd.file nm fl hf
  have hne : ∀ p, q nm = some p → p.block ≠ h nm := fun p hp e => by
    obtain ⟨cur, h1⟩ := own_cells f0.2.2.1 hp
    rw [e, f0.2.1] at h1
    injection h1 with h1; injection h1 with _ h1; cases h1
  have hb1 : w1.heap[h nm]? = w.heap[h nm]? := hg.block _ f0.lt (by
    intro e
    cases hq : q nm with
    | none => rw [hq] at e; cases e
    | some p => rw [hq] at e; injection e with e; exact hne p hq e.symm)
  have hbx := hb1.trans f0.2.1
  refine ⟨hbx, fun N hN => ?_⟩
  subst hN
  have hg2 := grown_set w1 (h nm) 0 (.slice q' (fl.bytes ++ data).length cap')
  have hb2 := heap_setCell_same w1 (h nm) 0 _ 118 (.slice q' (fl.bytes ++ data).length cap') hbx
  have hne' : ∀ p, q' = some p → p.block ≠ h nm := fun p hp e => by
    obtain ⟨cur, h1⟩ := own_cells ho hp
    rw [e, hbx] at h1
    injection h1 with h1; injection h1 with _ h1; cases h1
  have hoff : ∀ p, q' = some p → ¬ B p.block := fun p hp => by
    rw [hp] at hat
    rcases hat with h1 | h1
    · cases hq : q nm with
      | none => rw [hq] at h1; cases h1
      | some p0 => rw [hq] at h1; injection h1 with h1; simp only at h1; rw [h1]; exact f0.1.2 p0 hq
    · intro hb; have := hB _ hb; have := h1 _ rfl; simp only at this; omega
  refine ⟨hd.refile hf ?_ ⟨⟨f0.1.1, hoff⟩, hb2, own_other ho hg2 hne', by have := f0.2.2.2; simp; omega⟩ ?_, ?_⟩
  · intro i hi h1 h2
    refine (hg2.block i (Nat.lt_of_lt_of_le hi hg.size) (by intro e; injection e with e; exact h1 e)).trans (hg.block i hi ?_)
    intro e
    cases hq : q nm with
    | none => rw [hq] at e; cases e
    | some p => rw [hq] at e; injection e with e; exact h2 p hq e
  · intro p' hp'
    rw [hp'] at hat
    rcases hat with h1 | h1
    · cases hq : q nm with
      | none => rw [hq] at h1; cases h1
      | some p => rw [hq] at h1; injection h1 with h1; exact Or.inl ⟨p, rfl, h1.symm⟩
    · exact Or.inr (h1 _ rfl)
  · refine ⟨hg2.os.trans hg.os, hg2.tape.trans hg.tape, hg2.output.trans hg.output, Nat.le_trans hg.size hg2.size, fun i hi his => ?_⟩
    refine (hg2.block i (by have := hg.size; omega) (by intro e; injection e with e; exact f0.1.1 (e ▸ hi))).trans (hg.block i his ?_)
    intro e
    cases hq : q nm with
    | none => rw [hq] at e; cases e
    | some p => rw [hq] at e; injection e with e; simp only at e; exact f0.1.2 p hq (e ▸ hi)
set_option maxHeartbeats 1000000 in
set_option maxRecDepth 100000 in
theorem grow_old {B : Nat → Prop} {w : World} {g m : Nat} {s : Dk} {h : ByteArray → Nat} {q : ByteArray → Option Addr} {c : ByteArray → Nat} (hd : DkIn B w g s m h q c) (hB : Sub B w) {nm : ByteArray} (hs : nm.size ≤ 32) {fl : Fl} (hf : s.get nm = some fl) (p : Option Addr) (k : Nat) (data : List UInt8) (hdt : SlOf encB 1 w p k data) (hl : fl.bytes.length + data.length ≤ 140737488355328) :
    Calls Tryz.prog 58 #[.pointer (some ⟨g, 0, none⟩), .string nm, .slice p data.length k] w fun e w' => (∃ v, e = .returned v) ∧ DkAt B w' g { s with get := upd s.get nm (some ⟨fl.bytes ++ data, fl.lasts⟩) } ∧ Kpt B w w' := by
  have hlk := hd.map.look (nm := nm) (by unfold maxLen; omega)
  rw [hf] at hlk
  simp only [Option.map_some, ptr] at hlk
  obtain ⟨⟨c0, c1, c2, c3, c4⟩, _⟩ := cells5 hd.box
  have f0 := hd.file nm fl hf
  obtain ⟨⟨d0, d1⟩, _⟩ := cells2 f0.2.1
  have HO := hide f0.2.2.1
  have HS := hide hdt
  have hre := fun (q' : Option Addr) (cap' : Nat) (w1 : World) (ho : OwnK encB 5 1 0 w1 q' cap' (fl.bytes ++ data)) (hg : w.grownBy w1 ((q nm).map (·.block))) (hat : q'.map (·.block) = (q nm).map (·.block) ∨ ∀ k, q'.map (·.block) = some k → w.heap.size ≤ k) => refile_app hd hf ho hg hat hB
  obtain ⟨N, hN⟩ : ∃ N, fl.bytes.length + data.length = N := ⟨_, rfl⟩
  have hN2 : (fl.bytes ++ data).length = N := by rw [List.length_append, hN]
  have HN := hide hN
  have HN2 := hide hN2
  rw [hN] at hl
  have HR := hide hre
  clear hd f0 hdt hre hN hN2
  go_enter Tryz.func58, Tryz.ntmps58
  go_wp2_with (at_builtin; refine wpList_appW rfl _ _ rfl 0 (q nm) (c nm) fl.bytes p k data fl.bytes.length data.length N rfl rfl (unhide HN) rfl rfl (unhide HO) (unhide HS).src (by unfold maxLen; omega) (by omega) (Nat.zero_le _) ?_; intro q2 c2' w2 o2 g2 hat; obtain ⟨hbx, hend⟩ := unhide HR q2 c2' w2 o2 g2 hat; obtain ⟨⟨x0, x1⟩, z0, z1⟩ := cells2 hbx; have HE := hide (hend N (unhide HN2)); clear o2 g2 hat hbx hend)
  go_end0
  exact ⟨⟨_, rfl⟩, ⟨_, _, _, _, (unhide HE).1⟩, (unhide HE).2⟩
theorem upd_upd {α : Type} (f : ByteArray → Option α) (nm : ByteArray) (x y : Option α) : upd (upd f nm x) nm y = upd f nm y := by
  funext k
  by_cases e : k = nm
  · subst e; rw [upd_same, upd_same]
  · rw [upd_ne _ _ e, upd_ne _ _ e, upd_ne _ _ e]
/-- A slice stays while a map turns. -/
theorem sl_map {α : Type} [Inhabited α] {enc : α → List Value} {ek : Nat} (hek : 0 < ek) {w w' : World} {m : Nat} {es : Array MapEntry} {cl : Nat} {q : Option Addr} {c : Nat} {l : List α} (h : SlOf enc ek w q c l) (hm : w.heap[m]? = some (.map es cl)) (hg : w.grownBy w' (some m)) : SlOf enc ek w' q c l := by
  refine ⟨h.1, h.2.1, h.2.2.1, fun h0 => ?_⟩
  obtain ⟨b, off, hq, hb, hA⟩ := h.2.2.2 h0
  have hne : b ≠ m := fun e => by
    subst e
    obtain ⟨x, hx, _⟩ := get_at h0
    have h1 := hA _ _ (flat_at (enc := enc) (k := ek) hx 0 hek)
    unfold World.cell? at h1
    rw [hm] at h1
    cases h1
  have he := hg.block b hb (by intro e; injection e with e; exact hne e)
  exact ⟨b, off, hq, Nat.lt_of_lt_of_le hb hg.size, fun j u hj => (World.cell?_of_block (w := w) (a := ⟨b, off + j, none⟩) he).trans (hA j u hj)⟩
set_option maxHeartbeats 1000000 in
set_option maxRecDepth 100000 in
theorem grow_new {B : Nat → Prop} {w : World} {g m : Nat} {s : Dk} {h : ByteArray → Nat} {q : ByteArray → Option Addr} {c : ByteArray → Nat} (hd : DkIn B w g s m h q c) (hB : Sub B w) {nm : ByteArray} (hs : nm.size ≤ 32) (hf : s.get nm = none) (hn : s.n < maxLen) (p : Option Addr) (k : Nat) (data : List UInt8) (hdt : SlOf encB 1 w p k data) (hl : data.length ≤ 140737488355328) :
    Calls Tryz.prog 58 #[.pointer (some ⟨g, 0, none⟩), .string nm, .slice p data.length k] w fun e w' => (∃ v, e = .returned v) ∧ DkAt B w' g { s with get := upd s.get nm (some ⟨data, 0⟩), n := s.n + 1 } ∧ Kpt B w w' := by
  have hlk := hd.map.look (nm := nm) (by unfold maxLen; omega)
  rw [hf] at hlk
  simp only [Option.map_none, ptr] at hlk
  obtain ⟨⟨c0, c1, c2, c3, c4⟩, _⟩ := cells5 hd.box
  obtain ⟨Z, hZ⟩ : ∃ Z, w.alloc (.cells #[.slice none 0 0, .int .i64 0] 118) = Z := ⟨_, rfl⟩
  have bZ : Below w.heap.size w Z := by rw [← hZ]; exact (Below.refl _ _).alloc (Nat.le_refl _) _
  have kZ : Z.heap[w.heap.size]? = some (.cells #[.slice none 0 0, .int .i64 0] 118 (0, 0)) := by rw [← hZ]; exact heap_alloc_new _ _
  have hdZ := hd.below bZ
  have hpu := put_any hdZ.box hdZ.map hn nm hs w.heap.size
  have hend : ∀ w1 w2, Below Z.heap.size Z w1 → FM w2 m (s.n + 1) (upd (fun k => (s.get k).map fun _ => h k) nm (some w.heap.size)) → w1.grownBy w2 (some m) → DkIn B w2 g { s with get := upd s.get nm (some ⟨[], 0⟩), n := s.n + 1 } m (upF h nm w.heap.size) (upF q nm none) (upF c nm 0) ∧ Kpt B w w2 := fun w1 w2 h1 h2 h3 => by
    have hlt : w.heap.size < Z.heap.size := (Array.getElem?_eq_some_iff.1 kZ).1
    have hk1 := (h1.block _ hlt).trans kZ
    refine ⟨(hdZ.below h1).put h3 h2 (fl0 := ⟨[], 0⟩) (q0 := none) (c0 := 0) ⟨⟨fun hb => by have := hB _ hb; omega, fun p hp => by cases hp⟩, hk1, OwnK.nil _ _, Nat.le_refl _⟩ ?_, ?_⟩
    · intro k fl _ hk
      have := (hd.file k fl hk).lt
      exact ⟨by omega, fun p p' _ h => by cases h⟩
    · have h5 := below_sub bZ h1
      exact (Kpt.of (B := B) h5).trans (grown_le h3 hd.bm (Sub.trans hB h5.size))
  have HE := hide hend
  have HMZ := hide hdZ.map.is_map
  have HMlt := hide hdZ.map.lt
  have HS := hide (hdt.below bZ)
  clear hd hdZ hdt hend kZ bZ
  go_enter Tryz.func58, Tryz.ntmps58
  go_wp2_with (first
    | (go_at_call 94; refine hpu.mono ?_; rintro e w2 ⟨⟨v, rfl⟩, w1, b1, f2, g2⟩; have E := unhide HE w1 w2 b1 f2 g2; have f0 := E.1.file nm ⟨[], 0⟩ (upd_same _ _ _); rw [upF_same, upF_same, upF_same] at f0; obtain ⟨⟨x0, x1⟩, z0, z1⟩ := cells2 f0.2.1; have HO := hide f0.2.2.1; have HD := hide E.1; have HBw := hide E.2; obtain ⟨es, cl, hmm⟩ := unhide HMZ; have HS2 : Hid (SlOf encB 1 w2 p k data) := hide (sl_map (by decide) ((unhide HS).below b1) ((b1.block m (unhide HMlt)).trans hmm) g2); clear E f0 b1 f2 g2 hmm)
    | (at_builtin; refine wpList_appW rfl _ _ rfl 0 none 0 [] p k data 0 data.length data.length rfl rfl (by omega) rfl rfl (unhide HO) (unhide HS2).src (by unfold maxLen; omega) (by omega) (Nat.zero_le _) ?_; intro q3 c3' w3 o3 g3 hat; have R := refile_app (unhide HD) (upd_same _ _ _) (q' := q3) (cap' := c3') (data := data) (w1 := w3) o3 (by rw [upF_same]; exact g3) (by rw [upF_same]; exact hat) (Sub.trans hB (unhide HBw).size); obtain ⟨hbx, hend2⟩ := R; have hend3 := hend2 data.length rfl; rw [upF_same, upF_same, upF_same] at hbx; rw [upF_same] at hend3; obtain ⟨⟨y0, y1⟩, u0, u1⟩ := cells2 hbx; have HE3 := hide hend3; clear o3 g3 hat hbx hend2 hend3))
  go_end0
  have h9 := unhide HE3
  simp only [upd_upd, List.nil_append] at h9
  exact ⟨⟨_, rfl⟩, ⟨_, _, _, _, h9.1⟩, (unhide HBw).trans h9.2⟩
end Go.Proofs.YtfigjfmldpfjkaaGreat
namespace Go.Proofs.YtfigjfmldpfjkaaGreat
open Go.RowKit Go.Sort Go.Shelf

def growS (s : Dk) (nm : ByteArray) (data : List UInt8) : Dk := match s.get nm with
  | some fl => { s with get := upd s.get nm (some ⟨fl.bytes ++ data, fl.lasts⟩) }
  | none => { s with get := upd s.get nm (some ⟨data, 0⟩), n := s.n + 1 }
theorem grow_any {B : Nat → Prop} {w : World} {g : Nat} {s : Dk} (hd : DkAt B w g s) (hB : Sub B w) {nm : ByteArray} (hs : nm.size ≤ 32) (hn : s.n < maxLen) (p : Option Addr) (k : Nat) (data : List UInt8) (hdt : SlOf encB 1 w p k data) (hl0 : ∀ fl, s.get nm = some fl → fl.bytes.length + data.length ≤ 140737488355328) (hl : data.length ≤ 140737488355328) :
    Calls Tryz.prog 58 #[.pointer (some ⟨g, 0, none⟩), .string nm, .slice p data.length k] w fun e w' => (∃ v, e = .returned v) ∧ DkAt B w' g (growS s nm data) ∧ Kpt B w w' := by
  obtain ⟨m, h, q, c, hi⟩ := hd
  unfold growS
  cases hf : s.get nm with
  | some fl => exact grow_old hi hB hs hf p k data hdt (hl0 fl hf)
  | none => exact grow_new hi hB hs hf hn p k data hdt (by omega)
theorem sl_box {w w' : World} {g : Nat} {a c d : Int} {b : Bool} {e : Option Nat} {q : Option Addr} {k : Nat} {l : List UInt8} (h : SlOf encB 1 w q k l) (hb : w.heap[g]? = some (.cells #[.int .i64 a, .bool b, .int .i64 c, .int .i64 d, .map e] 51 (0, 0))) (hg : w.grownBy w' (some g)) : SlOf encB 1 w' q k l := by
  refine ⟨h.1, h.2.1, h.2.2.1, fun h0 => ?_⟩
  obtain ⟨bb, off, hq, hlt, hA⟩ := h.2.2.2 h0
  have hne : bb ≠ g := fun e9 => by
    subst e9
    obtain ⟨x, hx, _⟩ := get_at h0
    have h1 := hA _ _ (flat_at (enc := encB) (k := 1) hx 0 (by omega))
    unfold World.cell? at h1
    rw [hb] at h1
    have h2 : (#[.int .i64 a, .bool b, .int .i64 c, .int .i64 d, .map e] : Array Value)[off]? = some (.int .u8 (x.toNat : Int)) := h1
    rcases off with _ | _ | _ | _ | _ | off
    · simp at h2
    · simp at h2
    · simp at h2
    · simp at h2
    · simp at h2
    · simp at h2
  have he := hg.block bb hlt (by intro e9; injection e9 with e9; exact hne e9)
  exact ⟨bb, off, hq, Nat.lt_of_lt_of_le hlt hg.size, fun j u hj => (World.cell?_of_block (w := w) (a := ⟨bb, off + j, none⟩) he).trans (hA j u hj)⟩
set_option maxHeartbeats 1000000 in
set_option maxRecDepth 100000 in
theorem append_yes {B : Nat → Prop} {w : World} {g : Nat} {s : Dk} (hd : DkAt B w g s) (hB : Sub B w) {nm : ByteArray} (ho : s.off = false) (hk : nameOk nm = true) (h1 : s.named ≠ 1) (ha : s.acts ≤ 4611686018427387904) (hn : s.n < maxLen) (p : Option Addr) (k : Nat) (data : List UInt8) (hdt : SlOf encB 1 w p k data) (hl0 : ∀ fl, s.get nm = some fl → fl.bytes.length + data.length ≤ 140737488355328) (hl : data.length ≤ 140737488355328) :
    Calls Tryz.prog 29 #[.pointer (some ⟨g, 0, none⟩), .string nm, .slice p data.length k] w fun e w' => e = .returned (.int .i64 0) ∧ DkAt B w' g (growS { s with named := s.named - 1, acts := s.acts + 1 } nm data) ∧ Kpt B w w' := by
  obtain ⟨m, h, q, c, hi⟩ := hd
  have hs := name_size hk
  have hb : Below w.heap.size w (w.alloc (.cells #[.string nm] 9)) := (Below.refl _ _).alloc (Nat.le_refl _) _
  have hi2 := hi.below hb
  have hck := check_any ⟨m, h, q, c, hi2⟩ (some ⟨w.heap.size, 0, none⟩) 1 [nm] (slA w [nm] (by simp)) (by simp)
  rw [ck_one, ho, hk] at hck
  simp only [List.length_cons, List.length_nil, Nat.zero_add, Bool.false_eq_true, if_false, if_true] at hck
  have hsp := spend_yes hi2 h1 ha
  have hsl := fun (w' : World) (hg : (w.alloc (.cells #[.string nm] 9)).grownBy w' (some g)) => sl_box (hdt.below hb) hi2.box hg
  have hgr := fun (W : World) (hW : DkAt B W g { s with named := s.named - 1, acts := s.acts + 1 }) (hBW : Sub B W) (hdt : SlOf encB 1 W p k data) => grow_any hW hBW hs hn p k data hdt hl0 hl
  have HSL := hide hsl
  have HBG := hide hi.bg
  have HBB := hide (Kpt.of (B := B) hb)
  clear hi hi2 hb hdt hl0 hsl
  go_enter Tryz.func29, Tryz.ntmps29
  go_wp2_with (first
    | (go_at_call 55; refine hck.mono ?_; rintro e w1 ⟨rfl, hw1⟩; obtain rfl := hw1.symm)
    | (go_at_call 56; refine hsp.mono ?_; rintro e w2 ⟨rfl, d2, g2⟩; have D2 := hide d2; have S2 := hide (unhide HSL w2 g2); have B2 := hide ((unhide HBB).trans (grown_le g2 (unhide HBG) (Sub.trans hB (unhide HBB).size))); clear d2 g2)
    | (go_at_call 58; refine (hgr w2 ⟨_, _, _, _, unhide D2⟩ (Sub.trans hB (unhide B2).size) (unhide S2)).mono ?_; rintro e w3 ⟨⟨v, rfl⟩, d3, b3⟩; have D3 := hide d3; have B3 := hide ((unhide B2).trans b3); clear d3 b3))
  go_ret
  exact ⟨rfl, unhide D3, unhide B3⟩
theorem min_nat (a : Int) (n : Nat) : min (max a 0) (n : Int) = ((min (max a 0).toNat n : Nat) : Int) := by omega
set_option maxHeartbeats 1000000 in
set_option maxRecDepth 100000 in
theorem append_down {B : Nat → Prop} {w : World} {g : Nat} {s : Dk} (hd : DkAt B w g s) (hB : Sub B w) {nm : ByteArray} (ho : s.off = false) (hk : nameOk nm = true) (h1 : s.named = 1) (hn : s.n < maxLen) (p : Option Addr) (k : Nat) (data : List UInt8) (hdt : SlOf encB 1 w p k data) (hl0 : ∀ fl, s.get nm = some fl → fl.bytes.length + data.length ≤ 140737488355328) (hl : data.length ≤ 140737488355328) :
    Calls Tryz.prog 29 #[.pointer (some ⟨g, 0, none⟩), .string nm, .slice p data.length k] w fun e w' => e = .returned (.int .i64 40) ∧ DkAt B w' g (growS { s with off := true } nm (data.take (max s.part 0).toNat)) ∧ Kpt B w w' := by
  obtain ⟨m, h, q, c, hi⟩ := hd
  have hs := name_size hk
  have hb : Below w.heap.size w (w.alloc (.cells #[.string nm] 9)) := (Below.refl _ _).alloc (Nat.le_refl _) _
  have hi2 := hi.below hb
  have hck := check_any ⟨m, h, q, c, hi2⟩ (some ⟨w.heap.size, 0, none⟩) 1 [nm] (slA w [nm] (by simp)) (by simp)
  rw [ck_one, ho, hk] at hck
  simp only [List.length_cons, List.length_nil, Nat.zero_add, Bool.false_eq_true, if_false, if_true] at hck
  have hsp := spend_no hi2 h1
  have hsl := fun (w' : World) (hg : (w.alloc (.cells #[.string nm] 9)).grownBy w' (some g)) => sl_box (hdt.below hb) hi2.box hg
  obtain ⟨T, hT⟩ : ∃ T, (data.take (max s.part 0).toNat).length = T := ⟨_, rfl⟩
  have hT2 : min (max s.part 0) (data.length : Int) = (T : Int) := by rw [min_nat, ← hT, List.length_take]
  have hdn := fun (W : World) (hW : DkAt B W g { s with off := true }) => done_any hW data.length
  simp only [hT2] at hdn
  have hgr := fun (W : World) (hW : DkAt B W g { s with off := true }) (hBW : Sub B W) (hdt : SlOf encB 1 W p k data) => grow_any hW hBW hs hn p k (data.take (max s.part 0).toNat) (sl_take hdt _) (fun fl hf => by have := hl0 fl hf; rw [List.length_take]; omega) (by rw [List.length_take]; omega)
  simp only [hT] at hgr
  have hTk : (T : Int) ≤ (k : Int) := by have := hdt.2.1; rw [List.length_take] at hT; omega
  have hTk2 : T ≤ k := by omega
  have hT0 : (0 : Int) ≤ (T : Int) := by omega
  have HSL := hide hsl
  have HBG := hide hi.bg
  have HBB := hide (Kpt.of (B := B) hb)
  clear hi hi2 hb hdt hl0 hsl hT hT2
  go_enter Tryz.func29, Tryz.ntmps29
  go_wp2_with (first
    | (go_at_call 55; refine hck.mono ?_; rintro e w1 ⟨rfl, hw1⟩; obtain rfl := hw1.symm)
    | (go_at_call 56; refine hsp.mono ?_; rintro e w2 ⟨rfl, d2, g2⟩; have D2 := hide d2; have S2 := hide (unhide HSL w2 g2); have B2 := hide ((unhide HBB).trans (grown_le g2 (unhide HBG) (Sub.trans hB (unhide HBB).size))); clear d2 g2)
    | (go_at_call 57; refine (hdn w2 ⟨_, _, _, _, unhide D2⟩).mono ?_; rintro e w4 ⟨rfl, hw4⟩; obtain rfl := hw4.symm)
    | (go_at_call 58; refine (hgr w2 ⟨_, _, _, _, unhide D2⟩ (Sub.trans hB (unhide B2).size) (unhide S2)).mono ?_; rintro e w3 ⟨⟨v, rfl⟩, d3, b3⟩; have D3 := hide d3; have B3 := hide ((unhide B2).trans b3); clear d3 b3))
  go_ret
  exact ⟨rfl, unhide D3, unhide B3⟩
theorem loose_yes {B : Nat → Prop} {w : World} {g : Nat} {s : Dk} (hd : DkAt B w g s) {nm : ByteArray} {fl : Fl} (ho : s.off = false) (hk : nameOk nm = true) (hf : s.get nm = some fl) (hl : fl.bytes.length ≤ 140737488355328) :
    Calls Tryz.prog 46 #[.pointer (some ⟨g, 0, none⟩), .string nm] w fun e w' => e = .returned (.int .i64 ((fl.bytes.length - fl.lasts : Nat) : Int)) ∧ Below w.heap.size w w' := by
  obtain ⟨m, h, q, c, hi⟩ := hd
  have hfi := find_yes hi ho hk hf
  have hfl := hi.file nm fl hf
  have hlo := fun (W : World) (hW : FlAt B W (h nm) (q nm) (c nm) fl) => floose_b hW hl
  have HF := hide hfl
  clear hi hfl
  go_enter Tryz.func46, Tryz.ntmps46
  go_wp2_with (first
    | (go_at_call 70; refine hfi.mono ?_; rintro e w1 ⟨rfl, b1⟩; have F1 := hide ((unhide HF).below b1); have B1 := hide b1; clear b1)
    | (go_at_call 79; refine (hlo w1 (unhide F1)).mono ?_; rintro e w2 ⟨rfl, b2⟩; have B2 := hide (below_sub (unhide B1) b2); clear b2))
  go_ret
  exact ⟨rfl, unhide B2⟩
theorem loose_no {B : Nat → Prop} {w : World} {g : Nat} {s : Dk} (hd : DkAt B w g s) {nm : ByteArray} (he : errE s nm ≠ 0) :
    Calls Tryz.prog 46 #[.pointer (some ⟨g, 0, none⟩), .string nm] w fun e w' => e = .returned (.int .i64 0) ∧ Below w.heap.size w w' := by
  obtain ⟨m, h, q, c, hi⟩ := hd
  have hfi := find_no hi he
  generalize errE s nm = E at he hfi
  have hE : (E == 0) = false := by simp [he]
  clear hi he
  go_enter Tryz.func46, Tryz.ntmps46
  go_wp2_with (go_at_call 70; refine hfi.mono ?_; rintro e w1 ⟨rfl, b1⟩; have B1 := hide b1; clear b1)
  go_ret
  exact ⟨rfl, unhide B1⟩
theorem sync_no {B : Nat → Prop} {w : World} {g : Nat} {s : Dk} (hd : DkAt B w g s) {nm : ByteArray} (he : errE s nm ≠ 0) :
    Calls Tryz.prog 37 #[.pointer (some ⟨g, 0, none⟩), .string nm] w fun e w' => e = .returned (.int .i64 (errE s nm)) ∧ Below w.heap.size w w' := by
  obtain ⟨m, h, q, c, hi⟩ := hd
  have hfi := find_no hi he
  generalize errE s nm = E at he hfi ⊢
  have hE : (E == 0) = false := by simp [he]
  clear hi he
  go_enter Tryz.func37, Tryz.ntmps37
  go_wp2_with (go_at_call 70; refine hfi.mono ?_; rintro e w1 ⟨rfl, b1⟩; have B1 := hide b1; clear b1)
  go_ret
  exact ⟨rfl, unhide B1⟩
def lastF (fl : Fl) : Fl := ⟨fl.bytes, fl.bytes.length⟩
set_option maxHeartbeats 1000000 in
set_option maxRecDepth 100000 in
theorem sync_yes {B : Nat → Prop} {w : World} {g : Nat} {s : Dk} (hd : DkAt B w g s) (hB : Sub B w) {nm : ByteArray} {fl : Fl} (ho : s.off = false) (hk : nameOk nm = true) (hf : s.get nm = some fl) (h1 : s.named ≠ 1) (ha : s.acts ≤ 4611686018427387904) :
    Calls Tryz.prog 37 #[.pointer (some ⟨g, 0, none⟩), .string nm] w fun e w' => e = .returned (.int .i64 0) ∧ DkAt B w' g { s with get := upd s.get nm (some (lastF fl)), named := s.named - 1, acts := s.acts + 1 } ∧ Kpt B w w' := by
  obtain ⟨m, h, q, c, hi⟩ := hd
  have hfi := find_yes hi ho hk hf
  have hsp := fun (W : World) (hW : DkIn B W g s m h q c) => spend_yes hW h1 ha
  have hend : ∀ W : World, DkIn B W g { s with named := s.named - 1, acts := s.acts + 1 } m h q c → Sub B W → (W.cell? ⟨h nm, 0, none⟩ = some (.slice (q nm) fl.bytes.length (c nm)) ∧ W.cell? ⟨h nm, 1, none⟩ = some (.int .i64 (fl.lasts : Int)) ∧ W.frozen? ⟨h nm, 1, none⟩ = false) ∧ DkAt B (W.setCell ⟨h nm, 1, none⟩ (.int .i64 (fl.bytes.length : Int))) g { s with get := upd s.get nm (some (lastF fl)), named := s.named - 1, acts := s.acts + 1 } ∧ Kpt B W (W.setCell ⟨h nm, 1, none⟩ (.int .i64 (fl.bytes.length : Int))) := fun W hW hBW => by
    have f0 := hW.file nm fl hf
    obtain ⟨⟨c0, c1⟩, z0, z1⟩ := cells2 f0.2.1
    have hg := grown_set W (h nm) 1 (.int .i64 (fl.bytes.length : Int))
    have hb := heap_setCell_same W (h nm) 1 _ 118 (.int .i64 (fl.bytes.length : Int)) f0.2.1
    refine ⟨⟨c0, c1, z1⟩, ⟨m, h, _, _, hW.refile (fl' := lastF fl) hf (q' := q nm) (c' := c nm) ?_ ⟨f0.1, hb, own_other f0.2.2.1 hg ?_, Nat.le_refl _⟩ (fun p' hp' => Or.inl ⟨p', hp', rfl⟩)⟩, grown_le hg f0.1.1 hBW⟩
    · intro i hi1 hi2 _
      exact hg.block i hi1 (by intro e; injection e with e; exact hi2 e)
    · intro p hp e
      obtain ⟨cur, hc⟩ := own_cells f0.2.2.1 hp
      rw [e, f0.2.1] at hc
      injection hc with hc; injection hc with _ hc; cases hc
  have HI := hide hi
  have HE := hide hend
  clear hi hend
  go_enter Tryz.func37, Tryz.ntmps37
  go_wp2_with (first
    | (go_at_call 70; refine hfi.mono ?_; rintro e w1 ⟨rfl, b1⟩; have D1 := hide ((unhide HI).below b1); have B1 := hide (Kpt.of (B := B) b1); clear b1)
    | (go_at_call 56; refine (hsp w1 (unhide D1)).mono ?_; rintro e w2 ⟨rfl, d2, g2⟩; have b2 := (unhide B1).trans (grown_le g2 (unhide HI).bg (Sub.trans hB (unhide B1).size)); obtain ⟨⟨x0, x1, x2⟩, e2, e3⟩ := unhide HE w2 d2 (Sub.trans hB b2.size); have E2 := hide e2; have E3 := hide (b2.trans e3); clear d2 g2 b2 e2 e3))
  go_ret
  exact ⟨rfl, unhide E2, unhide E3⟩
end Go.Proofs.YtfigjfmldpfjkaaGreat
namespace Go.Proofs
open Go.Shelf
def Tryz.keysA_ren : Go.Shelf.Ren := ⟨fun | 7 => 77 | 10 => 104 | n => n, fun | 23 => 49 | 26 => 9 | 3 => 88 | 28 => 124 | 0 => 0 | 27 => 123 | 33 => 136 | 4 => 4 | n => n, fun | n => n⟩
theorem Tryz.keysA : Go.Proofs.SlLaysZ.n7 Tryz.prog Tryz.keysA_ren := {
  mixed := by kernel_rfl
  f7 := ⟨Tryz.f77.name, by decide, Tryz.func77.trans (congrArg some (by kernel_rfl))⟩
  f10 := ⟨Tryz.f104.name, by decide, Tryz.func104.trans (congrArg some (by kernel_rfl))⟩
  t0 := Tryz.underlying0
  a0 := Tryz.isAgg0
  z0 := Tryz.sizeOf0
  v0 := Tryz.zeroValue0
  t4 := Tryz.underlying4
  a4 := Tryz.isAgg4
  z4 := Tryz.sizeOf4
  v4 := Tryz.zeroValue4
  t23 := Tryz.underlying49
  a23 := Tryz.isAgg49
  z23 := Tryz.sizeOf49
  v23 := Tryz.zeroValue49
  t26 := Tryz.underlying9
  a26 := Tryz.isAgg9
  z26 := Tryz.sizeOf9
  v26 := Tryz.zeroValue9
  t27 := Tryz.underlying123
  a27 := Tryz.isAgg123
  z27 := Tryz.sizeOf123
  v27 := Tryz.zeroValue123
  t28 := Tryz.underlying124
  a28 := Tryz.isAgg124
  z28 := Tryz.sizeOf124
  v28 := Tryz.zeroValue124
  t33 := Tryz.underlying136
  a33 := Tryz.isAgg136
  z33 := Tryz.sizeOf136
  v33 := Tryz.zeroValue136 }
def Tryz.sortedA_ren : Go.Shelf.Ren := ⟨fun | 6 => 76 | 8 => 102 | 9 => 103 | 11 => 118 | 13 => 120 | 12 => 119 | 23 => 139 | 24 => 140 | 14 => 130 | 15 => 131 | 16 => 132 | 17 => 133 | 18 => 134 | 19 => 135 | 20 => 136 | 21 => 137 | 22 => 138 | 25 => 143 | 26 => 144 | 27 => 145 | 28 => 146 | 29 => 147 | 30 => 148 | 31 => 149 | n => n, fun | 26 => 9 | 28 => 124 | 24 => 75 | 0 => 0 | 3 => 3 | 37 => 156 | 48 => 165 | 50 => 178 | 4 => 4 | 40 => 170 | 39 => 169 | 45 => 106 | 5 => 5 | 9 => 9 | 51 => 183 | 55 => 187 | 57 => 189 | 58 => 190 | 33 => 136 | n => n, fun | n => n⟩
theorem Tryz.sortedA : Go.Proofs.SlLaysZ.n6 Tryz.prog Tryz.sortedA_ren := {
  mixed := by kernel_rfl
  f6 := ⟨Tryz.f76.name, by decide, Tryz.func76.trans (congrArg some (by kernel_rfl))⟩
  f8 := ⟨Tryz.f102.name, by decide, Tryz.func102.trans (congrArg some (by kernel_rfl))⟩
  f11 := ⟨Tryz.f118.name, by decide, Tryz.func118.trans (congrArg some (by kernel_rfl))⟩
  t0 := Tryz.underlying0
  a0 := Tryz.isAgg0
  z0 := Tryz.sizeOf0
  v0 := Tryz.zeroValue0
  t24 := Tryz.underlying75
  a24 := Tryz.isAgg75
  z24 := Tryz.sizeOf75
  v24 := Tryz.zeroValue75
  t26 := Tryz.underlying9
  a26 := Tryz.isAgg9
  z26 := Tryz.sizeOf9
  v26 := Tryz.zeroValue9
  t28 := Tryz.underlying124
  a28 := Tryz.isAgg124
  z28 := Tryz.sizeOf124
  v28 := Tryz.zeroValue124
  i26 := by kernel_rfl }
end Go.Proofs
namespace Go.Proofs.YtfigjfmldpfjkaaGreat
open Go.RowKit Go.Sort Go.Shelf Go.Maps

theorem sortsT (m : Nat) : AnyZ.SortsIn Tryz.prog Tryz.sortedA_ren Fence.wide m :=
  ⟨fun blk off cap ss W hH hblk hsz => callsIn_wide.2 (Any.slices_Sort_string Tryz.sortS blk off cap ss W hH hblk hsz),
   fun p cap W => callsIn_wide.2 (Any.slices_Sort_string_none Tryz.sortS p cap W)⟩
/-- The names of all files, in their order. -/
def NamesOf {α : Type} (f : ByteArray → Option α) (l : List ByteArray) : Prop := l.Pairwise (fun x y => x.data.toList < y.data.toList) ∧ ∀ nm, nm ∈ l ↔ (f nm).isSome = true
def toBA (x : List UInt8) : ByteArray := ⟨x.toArray⟩
theorem toBA_list (x : List UInt8) : (toBA x).data.toList = x := by simp [toBA]
theorem names_of {w : World} {m n : Nat} {f : ByteArray → Option Nat} {D : DataW Unit} (h1 : w.ownsMap Tryz.prog  9 Rp m n D) (h2 : ∀ nm zd, D.atKey (.string nm.data.toList) zd = match f nm with | none => zd | some g => .lit (.int .i64 (g : Int))) {ss : List (List UInt8)} (hp : ss.Perm (strKeys D)) :
    NamesOf f ((ss.mergeSort fun x y => decide (x ≤ y)).map toBA) := by
  obtain ⟨es, hD, hpw, _⟩ := h1.entries keyS
  obtain ⟨es', hD', hko⟩ := h1.keysOf
  obtain rfl : es = es' := by rw [hD] at hD'; simpa using hD'
  subst hD
  have hk : ∀ p ∈ es, ∃ x, p.1 = .string x := fun p hp => by obtain ⟨v, hv⟩ := hko p hp; obtain ⟨x, _, hx, _⟩ := Maps.keyOf_str Tryz.underlying9 hv; exact ⟨x, hx⟩
  have hnd : ss.Nodup := by
    refine hp.symm.nodup ?_
    show (es.map fun p => strOf p.1).Nodup
    refine List.pairwise_map.2 (hpw.imp_of_mem fun {p q} hp' hq' hne e => hne ?_)
    obtain ⟨a, ha⟩ := hk p hp'
    obtain ⟨b, hb⟩ := hk q hq'
    rw [ha, hb] at e ⊢
    exact congrArg _ e
  have hmem : ∀ x, x ∈ ss ↔ (f (toBA x)).isSome = true := fun x => by
    rw [hp.mem_iff]
    have hh : x ∈ strKeys (.map es) ↔ has (.map es) (.string x) = true := by
      rw [has_eq, List.any_eq_true]
      show x ∈ es.map (fun p => strOf p.1) ↔ _
      rw [List.mem_map]
      constructor
      · rintro ⟨p, hp', rfl⟩
        obtain ⟨a, ha⟩ := hk p hp'
        exact ⟨p, hp', by rw [ha]; simp [Lit.sameKey, strOf]⟩
      · rintro ⟨p, hp', hs⟩
        obtain ⟨a, ha⟩ := hk p hp'
        rw [ha] at hs
        exact ⟨p, hp', by rw [ha]; simpa [Lit.sameKey, strOf] using hs⟩
    rw [hh]
    have h3 := h2 (toBA x)
    rw [toBA_list] at h3
    cases hf : f (toBA x) with
    | none =>
      rw [hf] at h3
      rw [has_false_of_atKey h3]; simp
    | some g =>
      rw [hf] at h3
      rw [has_true_of_atKey (y := .lit (.int .i64 (g : Int))) h3]; simp
  have hperm : (ss.mergeSort fun x y => decide (x ≤ y)).Perm ss := List.mergeSort_perm _ _
  have tr : ∀ a b c : List UInt8, leB a b = true → leB b c = true → leB a c = true := fun a b c h1 h2 => by simp only [leB, decide_eq_true_eq] at *; exact List.le_trans h1 h2
  have to : ∀ a b : List UInt8, (leB a b || leB b a) = true := fun a b => by simp only [leB, Bool.or_eq_true, decide_eq_true_eq]; exact List.le_total a b
  have hs := List.pairwise_mergeSort tr to ss
  have hnd2 : (ss.mergeSort leB).Nodup := hperm.symm.nodup hnd
  refine ⟨?_, fun nm => ?_⟩
  · rw [List.pairwise_map]
    refine (hs.and hnd2).imp fun {x y} h => ?_
    rw [toBA_list, toBA_list]
    have h4 : x ≤ y := by simpa [leB] using h.1
    exact Classical.byContradiction fun hn => h.2 (List.le_antisymm h4 (List.not_lt.1 hn))
  · rw [List.mem_map]
    constructor
    · rintro ⟨x, hx, rfl⟩
      exact (hmem x).1 (hperm.mem_iff.1 hx)
    · intro h
      refine ⟨nm.data.toList, hperm.mem_iff.2 ((hmem _).2 ?_), ?_⟩
      · rw [show toBA nm.data.toList = nm from ba_ext (toBA_list _)]; exact h
      · exact ba_ext (toBA_list _)
theorem strKeys_len {D : DataW Unit} (h : Maps.IsMap D) : (strKeys D).length = Maps.size D := by
  obtain ⟨es, rfl⟩ := h
  simp [strKeys, Maps.size]
set_option maxHeartbeats 1000000 in
theorem rising_any {B : Nat → Prop} {w : World} {g : Nat} {s : Dk} (hd : DkAt B w g s) (hn : s.n ≤ 1000000000) :
    Calls Tryz.prog 40 #[.pointer (some ⟨g, 0, none⟩)] w fun e w' => (∃ q cap l, e = .returned (.slice q l.length cap) ∧ OwnK encS 9 1 w.heap.size w' q cap l ∧ NamesOf s.get l ∧ l.length ≤ s.n) ∧ Below w.heap.size w w' := by
  obtain ⟨m, h, q, c, hi⟩ := hd
  obtain ⟨⟨c0, c1, c2, c3, c4⟩, _⟩ := cells5 hi.box
  obtain ⟨D, h1, h2⟩ := hi.map
  have hsz := h1.size_le
  have hbl := h1.lt
  refine (callsIn_wide (n := 6)).1 ?_
  have hseq : SeqGives Fence.wide 2 Tryz.prog 104 #[.pointer (some ⟨w.heap.size, 0, none⟩)] encStr (fun ss => ss.Perm (strKeys D)) (Maps.size D) (w.alloc (.cells #[.map (some m)] 49)) :=
    AnyZ.keys_gives (ρ := Tryz.keysA_ren) { Tryz.keysA with } Fence.wide _ trivial rfl (by omega) w.heap.size m s.n D _ (by simp) (by simp) (by
      obtain ⟨es, clock, hb, Ft, hs, hD⟩ := h1
      exact ⟨es, clock, (Below.heap_alloc _ _ m hbl).trans hb, Ft, hs, hD⟩)
  have cK : ∀ mb W, CallsIn Fence.wide 5 Tryz.prog 77 #[.map mb] W fun e w' => e = .returned (.func (.func 104) #[] #[.pointer (some ⟨W.heap.size, 0, none⟩)]) ∧ w' = W.alloc (.cells #[.map mb] 49) := fun mb W => AnyZ.keys_in Tryz.keysA Fence.wide 5 trivial rfl mb W
  have cS := AnyZ.sorted_in Tryz.sortedA Fence.wide 5 trivial trivial trivial trivial rfl (by omega) (sortsT _) (enters_of Tryz.func103 (by kernel_rfl) rfl) 104 #[.pointer (some ⟨w.heap.size, 0, none⟩)] trivial (enters_of Tryz.func104 (by kernel_rfl) rfl) _ _ (by unfold maxLen; omega) (by omega) _ hseq
  change CallsIn _ _ Tryz.prog 76 _ _ _ at cS
  have hfK : Fence.wide.fn 77 := trivial
  have hfS : Fence.wide.fn 76 := trivial
  have H1 := hide h1
  have H2 := hide h2
  clear hi h1 h2 hseq
  refine callsIn_of_wp Tryz.func40 rfl trivial ?_ rfl
  simp only [Tryz.ntmps40, List.size_toArray, List.length_cons, List.length_nil, Nat.reduceAdd, Nat.reduceSub, Array.replicate_succ, Array.replicate_zero, List.push_toArray, List.append_toArray, List.nil_append, List.cons_append]
  gi_wp2_with (first
    | (gi_at_call 77; refine (cK _ _).mono ?_; rintro e w' ⟨rfl, rfl⟩)
    | (gi_at_call 76; refine cS.mono ?_; rintro e w' ⟨v, ss, rfl, hS, hrow, hnil, hb⟩))
  go_ret
  have hno := names_of (unhide H1) (unhide H2) hS
  have hlen : ((ss.mergeSort fun x y => decide (x ≤ y)).map toBA).length = ss.length := by simp
  obtain ⟨q', cap', rfl, _⟩ := OwnK.shape hrow
  refine ⟨⟨q', cap', (ss.mergeSort fun x y => decide (x ≤ y)).map toBA, by rw [hlen]; rfl, ?_, ⟨hno.1, fun nm => (hno.2 nm).trans (by simp)⟩, by rw [hlen, hS.length_eq, strKeys_len (unhide H1).isMap]; exact hsz⟩, ((Below.refl _ w).alloc (Nat.le_refl _) _).trans (hb.mono (by simp))⟩
  unfold OwnK
  rw [hlen, flatS, List.map_map]
  exact ownsRow_base_a hrow (by simp)
end Go.Proofs.YtfigjfmldpfjkaaGreat

/- dnf's measured of any tree. -/
import Derived.Test.YtimklglliffpcaaGreatQDnfMeasJ
import Derived.Test.YtimklglliffpcaaGreatQZaf
import Derived.Test.YtimklglliffpcaaGreatQCjMake
namespace Go.Proofs.YtimklglliffpcaaGreat
open Go.RowKit Go.Sort

theorem wide_map {kids : List Nd} (hC : ∀ x ∈ kids, chkN x = true) (hW : ∀ x ∈ kids, wN x ≤ 64) : widL 64 kids = kids.map wN := by
  rw [widL_map]
  apply List.map_congr_left
  intro x hx
  have h := (wid_min (m := 64) (by omega) (by omega) x (hC x hx)).1
  have := hW x hx
  rw [h]; omega
theorem lit_agree {w0 w w' w'' : World} {C : Nat} {kind lo hi : Int} {attr : ByteArray} {neg : Bool} {ints : List Int} {words : List ByteArray} {qi qw : Option Addr} {ci cw : Nat} (h1 : SlOf encI 1 w0 qi ci ints) (h2 : SlOf encS 1 w0 qw cw words) (hb : Below w0.heap.size w0 w) (b : Below w.heap.size w w') (ha : Ags w0.heap.size C w' w'') :
    LitIn w'' ⟨kind, attr, qi, ints.length, ci, qw, words.length, cw, lo, hi, neg⟩ ⟨kind, attr, ints, words, lo, hi, neg⟩ := by
  obtain ⟨a1, a2⟩ := agree0 hb b ha
  exact ⟨rfl, rfl, rfl, rfl, rfl, rfl, rfl, h1.agree a1 (fun ad _ hlt o => a2 ad.block o hlt), h2.agree a1 (fun ad _ hlt o => a2 ad.block o hlt)⟩
theorem join_st {w0 w w' : World} {kind lo hi op : Int} {attr : ByteArray} {ints : List Int} {words : List ByteArray} {kids : List Nd} {gk : Nat} {us : List Sv} (ho : op = 3 ∨ op = 4) (hg : w.heap.size ≤ gk) (hs : SlOf encSd 10 w' (some ⟨gk, 0, none⟩) kids.length us) (hl : us.length = kids.length) (hk : ∀ (j : Nat) (v : Sv) (x : Nd), us[j]? = some v → kids[j]? = some x → SdSt w0.heap.size w.heap.size v x w') :
    SdSt w0.heap.size w.heap.size ⟨⟨0, ⟨#[]⟩, none, 0, 0, none, 0, 0, 0, 0, false⟩, op, wN (.mk kind attr ints words lo hi op kids), some ⟨gk, 0, none⟩, kids.length, kids.length⟩ (.mk kind attr ints words lo hi op kids) w' := fun w'' ha =>
  .join ho rfl rfl (hs.agree ha.1 (fun ad e hlt o => by cases e; exact ha.2 gk o hlt (Or.inr hg))) rfl hl (fun j v x h1 h2 => hk j v x h1 h2 w'' ha)
theorem meas_all : ∀ t, MsP t := by
  intro t
  induction t using Nd.ind with
  | h kind attr ints words lo hi op kids ih =>
    intro v w0 w hin hb hch hat hwt hwn
    obtain ⟨qi, ci, qw, cw, qk, ck, rfl, h1, h2, hk⟩ := hin.parts
    obtain ⟨l1, l2, l4⟩ := wtN_parts hwt
    have hch0 := hch
    simp only [chkN, Bool.and_eq_true] at hch
    obtain ⟨hn, hc⟩ := hch
    have hC : ∀ x ∈ kids, chkN x = true := fun x hx => chkL_mem hc hx
    simp only [Nv.val]
    unfold nodeB at hn
    by_cases o1 : op = 1
    · subst o1
      refine (meas_pos kind attr qi ci ints qw cw words lo hi qk ck kids w).mono ?_
      rintro e w' ⟨rfl, b⟩
      exact ⟨⟨⟨⟨kind, attr, qi, ints.length, ci, qw, words.length, cw, lo, hi, false⟩, 1, 1, none, 0, 0⟩, rfl, fun w'' ha => .pos (lit_agree h1 h2 hb b ha) rfl rfl⟩, b⟩
    · rw [if_neg o1] at hn
      by_cases o2 : op = 2
      · subst o2
        rw [if_pos rfl, Bool.and_eq_true] at hn
        obtain ⟨x, rfl⟩ := List.length_eq_one_iff.1 (of_decide_eq_true hn.2)
        obtain ⟨b, off, u, hq, hbb, hu, g0, g1, g2, g3, g4, g5, g6, g7⟩ := hk.at (j := 0) (x := x) rfl
        subst hq
        obtain ⟨k2, a2, i2, w2, lo2, hi2, o2, ks2⟩ := x
        obtain ⟨qi2, ci2, qw2, cw2, qk2, ck2, rfl, m1, m2, _⟩ := hu.parts
        rw [Nat.zero_mul, Nat.add_zero] at g0 g1 g2 g3 g4 g5
        have hs := hb.size
        refine (meas_neg kind attr qi ci ints qw cw words lo hi b off ck ⟨k2, a2, qi2, i2.length, ci2, qw2, w2.length, cw2, lo2, hi2, o2, qk2, ks2.length, ck2⟩ w (by omega) ((hb.cell (p := ⟨b, off, none⟩) hbb).trans g0) ((hb.cell (p := ⟨b, off + 1, none⟩) hbb).trans g1) ((hb.cell (p := ⟨b, off + 2, none⟩) hbb).trans g2) ((hb.cell (p := ⟨b, off + 3, none⟩) hbb).trans g3) ((hb.cell (p := ⟨b, off + 4, none⟩) hbb).trans g4) ((hb.cell (p := ⟨b, off + 5, none⟩) hbb).trans g5)).mono ?_
        rintro e w' ⟨rfl, b'⟩
        exact ⟨⟨⟨⟨k2, a2, qi2, i2.length, ci2, qw2, w2.length, cw2, lo2, hi2, true⟩, 1, 1, none, 0, 0⟩, rfl, fun w'' ha => .neg (lit_agree m1 m2 hb b' ha) rfl rfl⟩, b'⟩
      · have ho : op = 3 ∨ op = 4 := by
          by_cases o3 : op = 3
          · exact Or.inl o3
          · by_cases o4 : op = 4
            · exact Or.inr o4
            · rw [if_neg o2, if_neg (by omega)] at hn; cases hn
        have hA : ∀ x ∈ kids, atN x = true := atL_all (by rcases ho with rfl | rfl <;> simpa [atN] using hat)
        have hW := kids_wide ho hC hwn
        have hwd := (wid_min (m := 64) (by omega) (by omega) _ hch0).1
        rcases ho with rfl | rfl
        · have e : widN 64 (.mk kind attr ints words lo hi 3 kids) = prodB 64 (widL 64 kids) := by simp [widN]
          rw [e, wide_map hC hW] at hwd
          refine (meas_3 kind attr qi ci ints qw cw words lo hi qk ck kids w0 w hk hb ih hC hA hW l4).mono ?_
          rintro e w' ⟨⟨gk, us, rfl, a1, a2, a3, a4⟩, b⟩
          rw [show prodB 64 (kids.map wN) = wN (.mk kind attr ints words lo hi 3 kids) by rw [hwd]; omega]
          exact ⟨⟨_, rfl, join_st (Or.inl rfl) a1 a2 a3 a4⟩, b⟩
        · have e : widN 64 (.mk kind attr ints words lo hi 4 kids) = sumB 64 (widL 64 kids) := by simp [widN]
          rw [e, wide_map hC hW] at hwd
          refine (meas_4 kind attr qi ci ints qw cw words lo hi qk ck kids w0 w hk hb ih hC hA hW l4).mono ?_
          rintro e w' ⟨⟨gk, us, rfl, a1, a2, a3, a4⟩, b⟩
          rw [show sumB 64 (kids.map wN) = wN (.mk kind attr ints words lo hi 4 kids) by rw [hwd]; omega]
          exact ⟨⟨_, rfl, join_st (Or.inr rfl) a1 a2 a3 a4⟩, b⟩
end Go.Proofs.YtimklglliffpcaaGreat
namespace Go.Proofs.YtimklglliffpcaaGreat
open Go.RowKit Go.Sort

theorem cj_small : ∀ t : Nd, ∀ c ∈ cjN t, c.length ≤ wtN t ∧ ∀ l ∈ c, l.ints.length ≤ wtN t ∧ l.words.length ≤ wtN t := by
  intro t
  induction t using Nd.ind with
  | h kind attr ints words lo hi op kids ih =>
    intro c hc
    have hwl := words_len words
    simp only [cjN] at hc
    split at hc
    · have : ∀ ks : List Nd, (∀ x ∈ ks, ∀ c ∈ cjN x, c.length ≤ wtN x ∧ ∀ l ∈ c, l.ints.length ≤ wtN x ∧ l.words.length ≤ wtN x) → ∀ c ∈ cjSum ks, c.length ≤ wtL ks ∧ ∀ l ∈ c, l.ints.length ≤ wtL ks ∧ l.words.length ≤ wtL ks := by
        intro ks
        induction ks with
        | nil => intro _ c hc; simp [cjSum] at hc
        | cons x ks ihk =>
          intro hx c hc
          simp only [cjSum, List.mem_append] at hc
          simp only [wtL]
          rcases hc with hc | hc
          · obtain ⟨a, b⟩ := hx x (by simp) c hc
            exact ⟨by omega, fun l hl => by have := b l hl; omega⟩
          · obtain ⟨a, b⟩ := ihk (fun y hy => hx y (by simp [hy])) c hc
            exact ⟨by omega, fun l hl => by have := b l hl; omega⟩
      obtain ⟨a, b⟩ := this kids ih c hc
      simp only [wtN]
      exact ⟨by omega, fun l hl => by have := b l hl; omega⟩
    · split at hc
      · have : ∀ ks : List Nd, (∀ x ∈ ks, ∀ c ∈ cjN x, c.length ≤ wtN x ∧ ∀ l ∈ c, l.ints.length ≤ wtN x ∧ l.words.length ≤ wtN x) → ∀ c ∈ cjProd ks, c.length ≤ wtL ks ∧ ∀ l ∈ c, l.ints.length ≤ wtL ks ∧ l.words.length ≤ wtL ks := by
          intro ks
          induction ks with
          | nil => intro _ c hc; simp [cjProd] at hc; subst hc; simp
          | cons x ks ihk =>
            intro hx c hc
            simp only [cjProd, crossL, List.mem_flatMap, List.mem_map] at hc
            obtain ⟨c1, h1, c2, h2, rfl⟩ := hc
            obtain ⟨a, b⟩ := hx x (by simp) c1 h1
            obtain ⟨a2, b2⟩ := ihk (fun y hy => hx y (by simp [hy])) c2 h2
            simp only [wtL, List.length_append]
            exact ⟨by omega, fun l hl => by
              rcases List.mem_append.1 hl with hl | hl
              · have := b l hl; omega
              · have := b2 l hl; omega⟩
        obtain ⟨a, b⟩ := this kids ih c hc
        simp only [wtN]
        exact ⟨by omega, fun l hl => by have := b l hl; omega⟩
      · split at hc
        · cases kids with
          | nil => simp [negLit] at hc
          | cons x ks =>
            obtain ⟨k2, a2, i2, w2, l2, h2, o2, ks2⟩ := x
            have hwl2 := words_len w2
            simp only [negLit, List.mem_singleton] at hc
            subst hc
            simp only [wtN, wtL, List.length_singleton, List.mem_singleton]
            exact ⟨by omega, fun l hl => by subst hl; simp only; omega⟩
        · simp only [List.mem_singleton] at hc
          subst hc
          simp only [wtN, List.length_singleton, List.mem_singleton]
          exact ⟨by omega, fun l hl => by subst hl; simp only; omega⟩
/-- What Expand answers. -/
def expE (t : Nd) (m : Int) : Int := if WidthE t m = 0 then (if WidthA t m > m then 13 else 0) else WidthE t m
def expC (t : Nd) (m : Int) : List (List Lt) := if expE t m = 0 then cjN (downN t false) else []
theorem exp_ok {t : Nd} {m : Int} (h0 : WidthE t m = 0) (h1 : ¬ WidthA t m > m) : chkN t = true ∧ 1 ≤ m ∧ m ≤ 64 ∧ wN (downN t false) ≤ m ∧ WidthA t m = ((cjN (downN t false)).length : Nat) ∧ expE t m = 0 ∧ expC t m = cjN (downN t false) := by
  have hc : chkN t = true := by
    cases h : chkN t with
    | true => rfl
    | false => simp [WidthE, h] at h0
  have hm : 1 ≤ m ∧ m ≤ 64 := by
    by_cases h : 1 ≤ m ∧ m ≤ 64
    · exact h
    · simp [WidthE, hc, h] at h0
  have hA : WidthA t m = widN m (downN t false) := by simp [WidthA, hc, hm]
  have hd := chk_down t false hc
  have hw := (wid_min hm.1 hm.2 _ hd).1
  have hcj := (cj_all [] _ hd (at_down t false hc)).1
  have e : expE t m = 0 := by unfold expE; rw [if_pos h0, if_neg h1]
  rw [hA] at h1 ⊢
  exact ⟨hc, hm.1, hm.2, by omega, by rw [hcj]; omega, e, by unfold expC; rw [if_pos e]⟩
set_option maxRecDepth 100000 in
set_option maxHeartbeats 4000000 in
theorem width_bad8 (x : Nd) (m : Int) (v : Nv) (w : World) (hin : NdIn w v x) (hx : chkN x = false) (hwt : wtN x ≤ 1000000000) :
    Calls Tryz.prog 134 #[.agg #[.int .i64 v.kind, .string v.attr, .slice v.qi v.ni v.ci, .slice v.qw v.nw v.cw, .int .i64 v.lo, .int .i64 v.hi, .int .i64 v.op, .slice v.qk v.nk v.ck], .int .i64 m] w fun e w' => e = .returned (.tuple #[.int .i64 0, .int .i64 1]) ∧ Below w.heap.size w w' := by
  obtain ⟨X, HX⟩ : ∃ X, w.alloc (.cells #[.int .i64 v.kind, .string v.attr, .slice v.qi v.ni v.ci, .slice v.qw v.nw v.cw, .int .i64 v.lo, .int .i64 v.hi, .int .i64 v.op, .slice v.qk v.nk v.ck] 56) = X := ⟨_, rfl⟩
  have hX0 : X.heap[w.heap.size]? = some (.cells #[.int .i64 v.kind, .string v.attr, .slice v.qi v.ni v.ci, .slice v.qw v.nw v.cw, .int .i64 v.lo, .int .i64 v.hi, .int .i64 v.op, .slice v.qk v.nk v.ck] 56 (0, 0)) := by rw [← HX]; exact box_nw _ _
  have hwX : Below w.heap.size w X := by rw [← HX]; exact (Below.refl _ _).alloc (Nat.le_refl _) _
  obtain ⟨x0, x1, x2, x3, x4, x5, x6, x7⟩ := of8' hX0
  have hp := push_any x v X (hin.keep hwX) hwt
  have HWX := hide hwX
  rw [hx, show code false = 1 from rfl] at hp
  simp only [Nv.val] at hp
  clear hin hwX hX0 hx
  go_enter Tryz.func134, Tryz.ntmps134
  go_wp2_with (go_at_call 135; refine hp.mono ?_; rintro e w1 ⟨⟨u, rfl, hu⟩, b1⟩; have B1 := hide b1; clear b1 hu)
  refine bodyPost_ret (v := .tuple #[.int .i64 0, .int .i64 1]) (by simp [results, Tryz.results134, go_sem]) rfl ⟨rfl, (below_sub (unhide HWX) (unhide B1)).alloc (below_sub (unhide HWX) (unhide B1)).size _⟩
theorem pushWidth_any2 (x : Nd) (m : Int) (u : Nv) (W : World) (h : NdIn W u x) (hwt : wtN x ≤ 400000000) : Calls Tryz.prog 134 #[u.val, .int .i64 m] W fun e w' => e = .returned (.tuple #[.int .i64 (WidthA x m), .int .i64 (WidthE x m)]) ∧ Below W.heap.size W w' := by
  cases hc : chkN x
  · rw [show WidthA x m = 0 by unfold WidthA; rw [hc]; rfl, show WidthE x m = 1 by unfold WidthE; rw [hc]; rfl]
    exact width_bad8 x m u W h hc (by omega)
  · exact pushWidth_any x m u W h (by omega) (by have := wt_down x false hc; omega)
theorem Tryz.info37 : (Tryz.prog.info? 37).map (fun i => (i.zero, i.size, i.bytes)) = some (some (.slice none 0 0), 1, 24) := by kernel_rfl
theorem makeCj (n : Nat) (h : n * 24 ≤ 140737488355328) : ∃ cur : Array Value, cur.size = n * 1 ∧ ∀ W : World, (Instr.makeSlice 111 (.int .i64 (n : Int)) (.int .i64 (n : Int))).run Tryz.prog W = .ok (.slice (some ⟨W.heap.size, 0, none⟩) n n) (W.alloc (.cells cur 37)) := by
  obtain ⟨i0, hi, hz0, hz1, hz2⟩ := info_parts Tryz.info37
  refine ⟨madeCells (Value.cells (.slice none 0 0)) (n * i0.size), by rw [size_madeCells, hz1], fun W => ?_⟩
  have := run_make (P := Tryz.prog) W 111 37 i0 _ Tryz.underlying111 hi hz0 .i64 .i64 (n : Int) (n : Int) (by omega) (by omega) (by rw [hz2]; omega) (by omega)
  simpa only [Int.toNat_natCast] using this
theorem OffP.mono {B B' : Nat} {P : World → Prop} {g : Option Nat} {w : World} (h : OffP B P g w) (hB : B' ≤ B) : OffP B' P g w := fun w' hs hc => h w' hs fun b o hb hlt hne => hc b o (by omega) hlt hne
theorem GrowL.mono {B B' : Nat} {w : World} {q : Option Addr} {c n : Nat} {ls : List Lt} (h : GrowL B w q c n ls) (hB : B' ≤ B) : GrowL B' w q c n ls := by
  obtain ⟨h1, us, h2, h3, h4⟩ := h
  exact ⟨h1, us, h2, h3.mono hB, h4.mono hB⟩
theorem GrowL.set {B : Nat} {w : World} {q : Option Addr} {c n : Nat} {ls : List Lt} (h : GrowL B w q c n ls) {g : Nat} (hg : g < B) (o : Nat) (u : Value) : GrowL B (w.setCell ⟨g, o, none⟩ u) q c n ls := by
  obtain ⟨h1, us, h2, h3, h4⟩ := h
  refine ⟨h1, us, h2, ?_, h4.set (p := ⟨g, o, none⟩) hg u⟩
  refine World.ownsRow.kept h3 (gset (grefl w (some g)) o u) (Or.inr fun e => ?_)
  have := (World.ownsRow.lt h3 g e).1
  omega
/-- Conjunctions in memory of the call's own. -/
def CjsNew (B : Nat) (w : World) (q : Option Addr) (c : Nat) (cs : List (List Lt)) : Prop := ∃ us : List (Option Addr × Nat × Nat), us.length = cs.length ∧ OwnK encQ 37 1 B w q c us ∧ ∀ (j : Nat) (u : Option Addr × Nat × Nat) (ls : List Lt), us[j]? = some u → cs[j]? = some ls → GrowL B w u.1 u.2.2 u.2.1 ls
theorem CjsNew.of {B : Nat} {w : World} {q : Option Addr} {c : Nat} {cs : List (List Lt)} (h : CjsNew B w q c cs) : CjsOf w q c cs := by
  obtain ⟨us, h1, h2, h3⟩ := h
  exact ⟨us, h2.ls, h1, fun j u ls hj hl => ⟨(h3 j u ls hj hl).1.symm, (h3 j u ls hj hl).lits⟩⟩
theorem CjsNew.nil (B : Nat) (w : World) : CjsNew B w none 0 [] := ⟨[], rfl, OwnK.nil _ _, fun j u ls h => by simp at h⟩
theorem flatQ (us : List (Option Addr × Nat × Nat)) : (flatK encQ 1 us.toArray).toList = us.map (fun u => Value.slice u.1 u.2.1 u.2.2) := by
  apply List.ext_getElem?
  intro j
  by_cases hj : j < us.length
  · obtain ⟨x, hx, _⟩ := get_at hj
    have := flat_at (enc := encQ) (k := 1) hx 0 (by omega)
    rw [Nat.mul_one, Nat.add_zero] at this
    rw [this, List.getElem?_map, hx]; rfl
  · rw [List.getElem?_eq_none (by simp [flatK]; omega), List.getElem?_eq_none (by simp; omega)]
theorem snocQ {cs : List (List Lt)} {us : List (Option Addr × Nat × Nat)} {Q : (Option Addr × Nat × Nat) → List Lt → Prop} {s : Option Addr × Nat × Nat} {x : List Lt} {k : Nat} (hu : us.length = k) (hx : cs[k]? = some x) (h : ∀ (j : Nat) (v : Option Addr × Nat × Nat) (x : List Lt), us[j]? = some v → cs[j]? = some x → Q v x) (sp : Q s x) : ∀ (j : Nat) (y : Option Addr × Nat × Nat) (z : List Lt), (us ++ [s])[j]? = some y → cs[j]? = some z → Q y z := by
  intro j y z hj hz
  by_cases hjk : j < k
  · rw [List.getElem?_append_left (by omega)] at hj
    exact h j y z hj hz
  · have hj2 := (List.getElem?_eq_some_iff.1 hj).1
    rw [List.length_append, hu] at hj2
    obtain rfl : j = k := by simp at hj2; omega
    rw [List.getElem?_append_right (by omega), hu, Nat.sub_self] at hj
    rw [hx] at hz
    cases hj
    cases hz
    exact sp
set_option maxRecDepth 100000 in
set_option maxHeartbeats 4000000 in
theorem expand_any (t : Nd) (m : Int) (v : Nv) (w : World) (hin : NdIn w v t) (hwt : wtN t ≤ 400000000) :
    Calls Tryz.prog 84 #[v.val, .int .i64 m] w fun e w' => (∃ q c, e = .returned (.tuple #[.slice q (expC t m).length c, .int .i64 (expE t m)]) ∧ CjsNew w.heap.size w' q c (expC t m)) ∧ Below w.heap.size w w' := by
  obtain ⟨X, HX⟩ : ∃ X, w.alloc (.cells #[.int .i64 v.kind, .string v.attr, .slice v.qi v.ni v.ci, .slice v.qw v.nw v.cw, .int .i64 v.lo, .int .i64 v.hi, .int .i64 v.op, .slice v.qk v.nk v.ck] 56) = X := ⟨_, rfl⟩
  have bX : Below w.heap.size w X := by rw [← HX]; exact (Below.refl _ _).alloc (Nat.le_refl _) _
  have x8 : X.heap[w.heap.size]? = some (.cells #[.int .i64 v.kind, .string v.attr, .slice v.qi v.ni v.ci, .slice v.qw v.nw v.cw, .int .i64 v.lo, .int .i64 v.hi, .int .i64 v.op, .slice v.qk v.nk v.ck] 56 (0, 0)) := by rw [← HX]; exact box_nw _ _
  obtain ⟨c0, c1, c2, c3, c4, c5, c6, c7⟩ := of8' x8
  have hlt8 := heap_lt x8
  have X8 := hide x8
  have BX := hide bX
  simp only [Nv.val]
  have hwd : wtN (downN t false) ≤ 1000000000 ∨ chkN t = false := by
    cases h : chkN t with
    | true => exact Or.inl (by have := wt_down t false h; omega)
    | false => exact Or.inr rfl
  have hPW := pushWidth_any2 t m v X (hin.keep bX) (by omega)
  simp only [Nv.val] at hPW
  have HIN := hide (hin.keep bX)
  by_cases e0 : WidthE t m = 0
  · by_cases e1 : WidthA t m > m
    · have hE : expE t m = 13 := by unfold expE; rw [if_pos e0, if_pos e1]
      have hCn : expC t m = [] := by unfold expC; rw [if_neg (by omega)]
      rw [hE, hCn]
      rw [e0] at hPW
      obtain ⟨A, hA⟩ : ∃ A, WidthA t m = A := ⟨_, rfl⟩
      rw [hA] at hPW e1
      have e2 : decide (A > m) = true := by simp; omega
      clear hin bX x8 hE hCn hA e0
      go_enter Tryz.func84, Tryz.ntmps84
      go_wp2_with (go_at_call 134; refine hPW.mono ?_; rintro e w1 ⟨rfl, b1⟩; have B1 := hide b1; clear b1)
      refine bodyPost_ret (v := .tuple #[.slice none 0 0, .int .i64 13]) (by simp [results, Tryz.results84, go_sem, *]) rfl ⟨⟨none, 0, rfl, CjsNew.nil _ _⟩, below_sub (unhide BX) (unhide B1)⟩
    · obtain ⟨hc, m1, m2, hwn, hwa, hE, hCe⟩ := exp_ok e0 e1
      rw [hE, hCe]
      obtain ⟨T, hT⟩ : ∃ T, downN t false = T := ⟨_, rfl⟩
      have hTc : chkN T = true := by rw [← hT]; exact chk_down t false hc
      have hTa : atN T = true := by rw [← hT]; exact at_down t false hc
      have hTw : wtN T ≤ 1000000000 := by rw [← hT]; have := wt_down t false hc; omega
      rw [hT] at hwn hwa
      rw [hT]
      have hPT : PushT t = T := by unfold PushT; rw [if_pos hc, hT]
      obtain ⟨n, hn⟩ : ∃ n, (cjN T).length = n := ⟨_, rfl⟩
      rw [hn] at hwa
      rw [hn]
      have hnm : (n : Int) ≤ m := by omega
      have hn64 : n ≤ 64 := by omega
      have hwT : wN T ≤ 64 := by omega
      rw [e0, hwa] at hPW
      have e2 : decide ((n : Int) > m) = false := by simp; omega
      have hP := fun (W : World) (hW : Below X.heap.size X W) => push_any t v W ((unhide HIN).keep hW) (by omega)
      rw [hc, hPT] at hP
      simp only [Nv.val, code, if_true] at hP
      obtain ⟨cur, hcs, hmk⟩ := makeCj n (by omega)
      have hmx : n ≤ maxLen := by unfold maxLen; omega
      have HN := hide hn
      have HCS := hide hcs
      have a1 : (0 : Int) ≤ (n : Int) := by omega
      clear hin bX x8 hE hCe e0 e1 hwa hT hPT hcs hn hwd hc hwn
      go_enter Tryz.func84, Tryz.ntmps84
      go_wp2_with (first
        | (go_at_call 134; refine hPW.mono ?_; rintro e w1 ⟨rfl, b1⟩; (obtain ⟨d0, d1, d2, d3, d4, d5, d6, d7⟩ := of8' ((b1.block _ hlt8).trans (unhide X8))); have B1 := hide b1; clear b1)
        | (go_at_call 135; refine (hP _ (unhide B1)).mono ?_; rintro e w2 ⟨⟨u, rfl, hu⟩, b2⟩; simp only; have HU := hide hu.toIn; have B2 := hide (below_sub (unhide B1) b2); clear hu b2)
        | (go_at_call 136; refine name_worldM ?_; intro Y hY; have bY : Below w2.heap.size w2 Y := (by rw [hY]; exact (Below.refl _ _).alloc (Nat.le_refl _) _); refine (meas_all T u Y Y ((unhide HU).keep bY) (Below.refl _ _) hTc hTa hTw hwT).mono ?_; rintro e M ⟨⟨s, rfl, hs⟩, bM⟩; simp only [Sv.val]; have HS := hide hs.now; have BM := hide (below_sub (unhide BX) (below_sub (unhide B2) (below_sub bY bM))); have HMS := hide (show s.width = (n : Int) from (hs.now.wide hTc hTa).trans ((cj_all [] T hTc hTa).1.symm.trans (by rw [unhide HN]))); clear hs bM bY hY))
      obtain ⟨V, HV⟩ : ∃ V, M.alloc (.cells #[.int .i64 s.lit.kind, .string s.lit.attr, .slice s.lit.qi s.lit.ni s.lit.ci, .slice s.lit.qw s.lit.nw s.lit.cw, .int .i64 s.lit.lo, .int .i64 s.lit.hi, .bool s.lit.neg, .int .i64 s.op, .int .i64 s.width, .slice s.qk s.nk s.ck] 156) = V := ⟨_, rfl⟩
      have vk : V.heap[M.heap.size]? = some (.cells #[.int .i64 s.lit.kind, .string s.lit.attr, .slice s.lit.qi s.lit.ni s.lit.ci, .slice s.lit.qw s.lit.nw s.lit.cw, .int .i64 s.lit.lo, .int .i64 s.lit.hi, .bool s.lit.neg, .int .i64 s.op, .int .i64 s.width, .slice s.qk s.nk s.ck] 156 (0, 0)) := by rw [← HV]; exact box_nw _ _
      have bV : Below M.heap.size M V := by rw [← HV]; exact (Below.refl _ _).alloc (Nat.le_refl _) _
      have sV : V.heap.size = M.heap.size + 1 := by rw [← HV]; simp
      obtain ⟨Y, HY⟩ : ∃ Y, V.alloc (.cells cur 37) = Y := ⟨_, rfl⟩
      have bY : Below V.heap.size V Y := by rw [← HY]; exact (Below.refl _ _).alloc (Nat.le_refl _) _
      have yk : Y.heap[V.heap.size]? = some (.cells cur 37 (0, 0)) := by rw [← HY]; exact box_nw _ _
      have sY : Y.heap.size = V.heap.size + 1 := by rw [← HY]; simp
      have RQ := hide (show Y.ownsRow (M.heap.size + 1) 37 1 (.slice (some ⟨M.heap.size + 1, 0, none⟩) n n) n cur.toList from by rw [← sV]; exact rowOf10 yk (by omega) (unhide HCS) hmx)
      have VK := hide ((bY.block _ (heap_lt vk)).trans vk)
      have VK0 := hide vk
      have BVY := hide bY
      have BMV := hide bV
      have hMw := (unhide BM).size
      clear vk bV bY yk VK
      simp only [HV, HY]
      go_loopw [36] (fun i wr => ∃ (k : Nat) (us : List (Option Addr × Nat × Nat)), k ≤ n ∧ i = .int .i64 k ∧ us.length = k ∧ Hid (wr.ownsRow (M.heap.size + 1) 37 1 (.slice (some ⟨M.heap.size + 1, 0, none⟩) n n) n (us.map (fun u => Value.slice u.1 u.2.1 u.2.2) ++ cur.toList.drop k)) ∧ Hid (Below V.heap.size V wr) ∧ M.heap.size + 2 ≤ wr.heap.size ∧ Hid (∀ (j : Nat) (u : Option Addr × Nat × Nat) (ls : List Lt), us[j]? = some u → (cjN T)[j]? = some ls → GrowL (M.heap.size + 2) wr u.1 u.2.2 u.2.1 ls)) (fun i _ => n - (intOf i).toNat)
      case atStart => exact ⟨0, [], by omega, rfl, rfl, by simpa using RQ, BVY, by omega, hide (fun j u ls h => by simp at h)⟩
      case round =>
        obtain ⟨k, us, hkk, rfl, hus, RQr, HB, hsz, HG⟩ := hrel
        have HUS := hide hus
        clear hus
        have BMr : Below M.heap.size M wr := below_sub (unhide BMV) (unhide HB)
        by_cases hlt : k < n
        · obtain ⟨cj, hcj, _⟩ := get_at (l := cjN T) (k := k) (by have := unhide HN; omega)
          have hcl := (cj_small T cj (List.mem_of_getElem? hcj)).1
          have vr := ((unhide HB).block _ (by omega)).trans (unhide VK0)
          obtain ⟨f0, f1, f2, f3, f4, f5, f6, f7, f8, f9⟩ := of10' vr
          have hC := conj_all T hTc hTa hTw (by omega) s M k cj none 0 0 wr.heap.size [] wr (unhide HS) BMr BMr.size (Nat.le_refl _) (GrowL.nil _ _) hcj (by omega)
          unfold Sv.val at hC
          have ki0 : (0 : Int) ≤ (k : Int) := by omega
          have ki1 : (k : Int) < (n : Int) := by omega
          obtain ⟨zi, hzi⟩ : ∃ zi, cur.toList.drop k = [zi] ++ cur.toList.drop (k + 1) := ⟨_, List.drop_eq_getElem_cons (by have := unhide HCS; simp only [Array.length_toList]; omega)⟩
          have RQ1 := hide (show wr.ownsRow (M.heap.size + 1) 37 1 (.slice (some ⟨M.heap.size + 1, 0, none⟩) n n) n (us.map (fun u => Value.slice u.1 u.2.1 u.2.2) ++ [zi] ++ cur.toList.drop (k + 1)) by have h := unhide RQr; rw [hzi, ← List.append_assoc] at h; exact h)
          have HCJ := hide hcj
          clear hcj hzi vr
          go_wp2_with (go_at_call 137; refine hC.mono ?_; rintro e w2 ⟨q2, c2, N2, rfl, h1, h2⟩; simp only; have HE1 := hide h1; have HE2 := hide h2; have RQ2 := hide (row_below (unhide RQ1) h2); have ic := World.ownsRow.cellAt (unhide RQ2) k (by omega); rw [List.append_assoc, List.getElem?_append_right (by rw [List.length_map, unhide HUS]; omega), List.length_map, unhide HUS, Nat.sub_self] at ic; simp only [List.cons_append, List.getElem?_cons_zero] at ic; have iff2 : ∀ o, w2.frozen? ⟨M.heap.size + 1, o, none⟩ = false := ownsRow_free (unhide RQ2); have hs2 := h2.size; clear h1 h2)
          exact ⟨⟨k + 1, us ++ [(q2, N2, c2)], by omega, by go_num, by rw [List.length_append, unhide HUS]; rfl, hide (by
            have h := row1 (o := k) zi (.slice q2 N2 c2) (unhide RQ2) (by rw [List.length_map, unhide HUS])
            rw [List.map_append, List.map_singleton]
            exact h), hide ((below_sub (unhide HB) (unhide HE2)).setCell (by simp only; omega) _), by simp only [World.size_setCell]; omega, hide (snocQ (unhide HUS) (unhide HCJ) (fun j u ls h1 h2 => ((unhide HG j u ls h1 h2).below (unhide HE2)).set (by omega) _ _) (((unhide HE1).mono (by omega)).set (by omega) _ _))⟩, by simp [intOf]; omega⟩
        · have hkl : k = n := by omega
          subst hkl
          have ki1 : ¬ (k : Int) < (k : Int) := by omega
          have RQ4 := unhide RQr
          rw [List.drop_of_length_le (by have := unhide HCS; simp only [Array.length_toList]; omega), List.append_nil, ← flatQ] at RQ4
          have hO : OwnK encQ 37 1 (M.heap.size + 1) wr (some ⟨M.heap.size + 1, 0, none⟩) k us := by unfold OwnK; rw [unhide HUS]; exact RQ4
          have HO := hide hO
          clear RQ4 hO
          go_wp2
          refine bodyPost_ret (v := .tuple #[.slice (some ⟨M.heap.size + 1, 0, none⟩) k k, .int .i64 0]) (by simp [results, Tryz.results84, go_sem, *]) rfl ⟨⟨some ⟨M.heap.size + 1, 0, none⟩, k, rfl, us, (unhide HUS).trans (unhide HN).symm, (unhide HO).mono (by omega), fun j u ls h1 h2 => (unhide HG j u ls h1 h2).mono (by omega)⟩, below_sub (unhide BM) BMr⟩
  · have hE : expE t m = WidthE t m := by unfold expE; rw [if_neg e0]
    have hCn : expC t m = [] := by unfold expC; rw [if_neg (by omega)]
    rw [hE, hCn]
    obtain ⟨A, hA⟩ : ∃ A, WidthA t m = A := ⟨_, rfl⟩
    obtain ⟨E, hEE⟩ : ∃ E, WidthE t m = E := ⟨_, rfl⟩
    rw [hA, hEE] at hPW
    rw [hEE] at e0
    rw [hEE]
    have e2 : (E != 0) = true := by simp [e0]
    clear hin bX x8 hE hCn hA hEE
    go_enter Tryz.func84, Tryz.ntmps84
    go_wp2_with (go_at_call 134; refine hPW.mono ?_; rintro e w1 ⟨rfl, b1⟩; have B1 := hide b1; clear b1)
    refine bodyPost_ret (v := .tuple #[.slice none 0 0, .int .i64 E]) (by simp [results, Tryz.results84, go_sem, *]) rfl ⟨⟨none, 0, rfl, CjsNew.nil _ _⟩, below_sub (unhide BX) (unhide B1)⟩
end Go.Proofs.YtimklglliffpcaaGreat
namespace Go.Proofs.YtimklglliffpcaaGreat
open Go.RowKit Go.Sort Go.Shelf

/-- The literals of a tree in form are in form. -/
theorem cj_ok : ∀ (t : Nd) (neg : Bool), chkN t = true → ∀ c ∈ cjN (downN t neg), okL c = true := by
  intro t
  induction t using Nd.ind with
  | h kind attr ints words lo hi op kids ih =>
    intro neg hc c hcm
    rcases chk_parts hc with ⟨rfl, rfl, hp⟩ | ⟨rfl, ⟨x, rfl, hx⟩, _⟩ | ⟨ho, h2, hl, _⟩
    · have : cjN (downN (.mk kind attr ints words lo hi 1 []) neg) = [[⟨kind, attr, ints, words, lo, hi, neg⟩]] := by
        cases neg <;> simp [downN, litT, notT, cjN, negLit]
      rw [this] at hcm
      obtain rfl : c = [⟨kind, attr, ints, words, lo, hi, neg⟩] := by simpa using hcm
      simpa [okL, ltPd, Pd.ok] using hp
    · exact ih x (by simp) (!neg) hx c (by simpa [downN, downH] using hcm)
    · rw [down_34 ho] at hcm
      have h3 := op2_34 ho neg
      generalize (if neg = true then otherI op else op) = op2 at h3 hcm
      have hk : ∀ y ∈ downL kids neg, ∀ c ∈ cjN y, okL c = true := fun y hy => by
        obtain ⟨x, hx, rfl⟩ := downL_mem hy
        exact ih x hx neg (chkL_all hl x hx)
      generalize downL kids neg = ys at hk hcm
      rcases h3 with rfl | rfl
      · simp only [cjN, if_neg (show ¬ (3 : Int) = 4 by decide), if_true] at hcm
        have : ∀ ys : List Nd, (∀ y ∈ ys, ∀ c ∈ cjN y, okL c = true) → ∀ c ∈ cjProd ys, okL c = true := by
          intro ys
          induction ys with
          | nil => intro _ c hc; simp [cjProd] at hc; subst hc; rfl
          | cons y ys ihk =>
            intro hy c hc
            simp only [cjProd, crossL, List.mem_flatMap, List.mem_map] at hc
            obtain ⟨c1, h1, c2, h2, rfl⟩ := hc
            have a := hy y (by simp) c1 h1
            have b := ihk (fun z hz => hy z (by simp [hz])) c2 h2
            unfold okL at *
            rw [List.all_append, a, b]
            rfl
        exact this ys hk c hcm
      · simp only [cjN, if_true] at hcm
        have : ∀ ys : List Nd, (∀ y ∈ ys, ∀ c ∈ cjN y, okL c = true) → ∀ c ∈ cjSum ys, okL c = true := by
          intro ys
          induction ys with
          | nil => intro _ c hc; simp [cjSum] at hc
          | cons y ys ihk =>
            intro hy c hc
            simp only [cjSum, List.mem_append] at hc
            rcases hc with hc | hc
            · exact hy y (by simp) c hc
            · exact ihk (fun z hz => hy z (by simp [hz])) c hc
        exact this ys hk c hcm
theorem exp_okL {t : Nd} {m : Int} : ∀ c ∈ expC t m, okL c = true := by
  intro c hc
  unfold expC at hc
  split at hc
  · next h =>
    refine cj_ok t false ?_ c hc
    unfold expE at h
    cases hk : chkN t with
    | true => rfl
    | false =>
      simp only [WidthE, hk] at h
      simp at h
  · cases hc
theorem ok_fit {c : List Lt} (h : okL c = true) : NamesFit c := by
  intro l hl
  have h2 : (ltPd l).ok = true := by
    unfold okL at h
    exact List.all_eq_true.1 h l hl
  unfold Pd.ok predB at h2
  rw [Bool.and_eq_true] at h2
  have := h2.1
  unfold nameOk at this
  simp only [Bool.and_eq_true, decide_eq_true_eq] at this
  have h3 := this.1.1.2
  show (ltPd l).attr.size ≤ maxLen
  unfold maxLen
  omega
theorem exp_small {t : Nd} {m : Int} (hwt : wtN t ≤ 50000000) : ∀ c ∈ expC t m, c.length ≤ 100000000 ∧ SmallL c := by
  intro c hc
  have hc0 := hc
  unfold expC at hc
  split at hc
  · next h =>
    have hk : chkN t = true := by
      unfold expE at h
      cases hk : chkN t with
      | true => rfl
      | false =>
        simp only [WidthE, hk] at h
        simp at h
    have hw := wt_down t false hk
    obtain ⟨a, b⟩ := cj_small _ c hc
    exact ⟨by omega, fun l hl => by obtain ⟨b1, b2⟩ := b l hl; exact ⟨by show l.ints.length ≤ _; omega, by show l.words.length ≤ _; omega⟩⟩
  · cases hc
end Go.Proofs.YtimklglliffpcaaGreat

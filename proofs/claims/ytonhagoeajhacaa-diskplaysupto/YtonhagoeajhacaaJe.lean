/- A disk as told, held against the document's: plain. -/
import Derived.Test.YtonhagoeajhacaaJd
import Derived.Test.YtonhagoeajhacaaJk
import Derived.Test.YtonhagoeajhacaaJc
import Derived.Test.YtonhagoeajhacaaM2
namespace Go.Proofs.Ytonhagoeajhacaa
open Go.RowKit Go.Sort Go.Shelf

structure RelF (G : ByteArray → Option Fl) (fs : List Rf) (Z : Nat) : Prop where
  get : ∀ nm fl, G nm = some fl ↔ ∃ x ∈ fs, x.nm = nm ∧ flOf x = fl
  srt : Srt fs
  ok : ∀ x ∈ fs, nameOk x.nm = true ∧ x.la ≤ x.bs.length ∧ x.bs.length ≤ Z
structure Rel (s : Dk) (r : Rk) (Z : Nat) : Prop where
  f : RelF s.get r.fs Z
  acts : r.acts = s.acts
  off : r.off = s.off
  pw : s.off = false → r.named = s.named ∧ r.part = s.part
theorem RelF.mono {G : ByteArray → Option Fl} {fs : List Rf} {Z Z' : Nat} (h : RelF G fs Z) (hz : Z ≤ Z') : RelF G fs Z' := ⟨h.get, h.srt, fun x hx => ⟨(h.ok x hx).1, (h.ok x hx).2.1, Nat.le_trans (h.ok x hx).2.2 hz⟩⟩
theorem Rel.mono {s : Dk} {r : Rk} {Z Z' : Nat} (h : Rel s r Z) (hz : Z ≤ Z') : Rel s r Z' := ⟨h.f.mono hz, h.acts, h.off, h.pw⟩
theorem RelF.has {G : ByteArray → Option Fl} {fs : List Rf} {Z : Nat} (h : RelF G fs Z) (nm : ByteArray) : hasN fs nm = (G nm).isSome := by
  cases hg : G nm with
  | some fl =>
    obtain ⟨x, hx, hn, _⟩ := (h.get nm fl).1 hg
    unfold hasN
    simp only [Option.isSome_some, List.any_eq_true]
    exact ⟨x, hx, by simpa using hn⟩
  | none =>
    unfold hasN
    simp only [Option.isSome_none, List.any_eq_false]
    intro x hx e
    have := (h.get nm (flOf x)).2 ⟨x, hx, by simpa using e, rfl⟩
    rw [hg] at this; cases this
theorem RelF.fit {G : ByteArray → Option Fl} {fs : List Rf} {Z : Nat} (h : RelF G fs Z) {nm : ByteArray} {fl : Fl} (hf : G nm = some fl) : nameOk nm = true ∧ fl.lasts ≤ fl.bytes.length ∧ fl.bytes.length ≤ Z := by
  obtain ⟨x, hx, rfl, rfl⟩ := (h.get nm fl).1 hf
  exact h.ok x hx
theorem Rel.err {s : Dk} {r : Rk} {Z : Nat} (h : Rel s r Z) (nm : ByteArray) : refE r nm nm true = errE s nm := by
  unfold refE errE
  rw [h.off, h.f.has nm, Bool.and_self]
  cases s.off <;> cases nameOk nm <;> cases (s.get nm).isSome <;> rfl
theorem Rel.ck {s : Dk} {r : Rk} {Z : Nat} (h : Rel s r Z) (nm : ByteArray) : refE r nm nm false = ckE s.off [nm] := by
  rw [ck_one]
  unfold refE
  rw [h.off, Bool.and_self]
  cases s.off <;> cases nameOk nm <;> rfl
def errR (s : Dk) (nm to : ByteArray) : Int := if s.off then 40 else if nameOk nm && nameOk to then (if (s.get nm).isSome then 0 else 41) else 1
theorem Rel.ren {s : Dk} {r : Rk} {Z : Nat} (h : Rel s r Z) (nm to : ByteArray) : refE r nm to true = errR s nm to := by
  unfold refE errR
  rw [h.off, h.f.has nm]
  cases s.off <;> cases (nameOk nm && nameOk to) <;> cases (s.get nm).isSome <;> rfl
theorem RelF.put {G : ByteArray → Option Fl} {fs : List Rf} {Z : Nat} (h : RelF G fs Z) (f : Rf) (hf : nameOk f.nm = true ∧ f.la ≤ f.bs.length ∧ f.bs.length ≤ Z) : RelF (upd G f.nm (some (flOf f))) (putR fs f) Z := by
  refine ⟨fun nm fl => ?_, srt_put h.srt f, fun x hx => ?_⟩
  · by_cases e : nm = f.nm
    · subst e
      rw [upd_same]
      constructor
      · intro hq; injection hq with hq; exact ⟨f, mem_put.2 (Or.inl rfl), rfl, hq⟩
      · rintro ⟨x, hx, hn, rfl⟩
        rcases mem_put.1 hx with rfl | ⟨_, h2⟩
        · rfl
        · exact absurd hn h2
    · rw [upd_ne _ _ e, h.get]
      constructor
      · rintro ⟨x, hx, rfl, h2⟩; exact ⟨x, mem_put.2 (Or.inr ⟨hx, e⟩), rfl, h2⟩
      · rintro ⟨x, hx, rfl, h2⟩
        rcases mem_put.1 hx with rfl | ⟨h3, _⟩
        · exact absurd rfl e
        · exact ⟨x, h3, rfl, h2⟩
  · rcases mem_put.1 hx with rfl | ⟨h3, _⟩
    · exact hf
    · exact h.ok x h3
theorem RelF.drop {G : ByteArray → Option Fl} {fs : List Rf} {Z : Nat} (h : RelF G fs Z) (nm : ByteArray) : RelF (upd G nm none) (dropR fs nm) Z := by
  refine ⟨fun k fl => ?_, srt_drop h.srt nm, fun x hx => h.ok x (mem_drop.1 hx).1⟩
  by_cases e : k = nm
  · subst e
    rw [upd_same]
    constructor
    · intro hq; cases hq
    · rintro ⟨x, hx, hn, _⟩; exact absurd hn (mem_drop.1 hx).2
  · rw [upd_ne _ _ e, h.get]
    constructor
    · rintro ⟨x, hx, rfl, h2⟩; exact ⟨x, mem_drop.2 ⟨hx, e⟩, rfl, h2⟩
    · rintro ⟨x, hx, rfl, h2⟩; exact ⟨x, (mem_drop.1 hx).1, rfl, h2⟩
theorem RelF.names {G : ByteArray → Option Fl} {fs : List Rf} {Z : Nat} (h : RelF G fs Z) : NamesOf G (fs.map Rf.nm) := by
  refine ⟨?_, fun nm => ?_⟩
  · rw [List.pairwise_map]; exact h.srt
  · rw [List.mem_map, Option.isSome_iff_exists]
    constructor
    · rintro ⟨x, hx, rfl⟩; exact ⟨flOf x, (h.get _ _).2 ⟨x, hx, rfl, rfl⟩⟩
    · rintro ⟨fl, hf⟩
      obtain ⟨x, hx, hn, _⟩ := (h.get nm fl).1 hf
      exact ⟨x, hx, hn⟩
theorem RelF.crash {G G' : ByteArray → Option Fl} {fs L : List Rf} {Z : Nat} {cs : List Int} {l : List ByteArray} (h : RelF G fs Z) (hn : NamesOf G l) (hf : FoundG G G' cs l l.length) (hc : CrF fs cs L fs.length) : RelF G' L Z := by
  have hl : l = fs.map Rf.nm := names_unique hn h.names
  have hpair : ∀ (j : Nat) (y : Rf), L[j]? = some y → ∃ x, fs[j]? = some x ∧ y.nm = x.nm ∧ flOf y = foundF (flOf x) (chAt cs j) := fun j y hy => by
    have hlt := (List.getElem?_eq_some_iff.1 hy).1
    obtain ⟨x, hx, _⟩ := get_at (l := fs) (k := j) (by rw [← hc.1]; exact hlt)
    exact ⟨x, hx, hc.2 j x y hx hy⟩
  have hnm : L.map Rf.nm = fs.map Rf.nm := by
    apply List.ext_getElem?
    intro j
    rw [List.getElem?_map, List.getElem?_map]
    cases hy : L[j]? with
    | some y => obtain ⟨x, hx, h1, _⟩ := hpair j y hy; rw [hx]; simp [h1]
    | none =>
      have : fs[j]? = none := by rw [List.getElem?_eq_none_iff] at hy ⊢; rw [← hc.1]; exact hy
      rw [this]
  have hat : ∀ (j : Nat) (y : Rf), L[j]? = some y → G' y.nm = some (flOf y) := fun j y hy => by
    obtain ⟨x, hx, h1, h2⟩ := hpair j y hy
    have hlj : l[j]? = some y.nm := by rw [hl, List.getElem?_map, hx, h1]; rfl
    rw [h2]
    exact hf.1 j y.nm (flOf x) (List.getElem?_eq_some_iff.1 hlj).1 hlj (by rw [h1]; exact (h.get _ _).2 ⟨x, List.mem_of_getElem? hx, rfl, rfl⟩)
  refine ⟨fun nm fl => ⟨fun hg => ?_, ?_⟩, ?_, fun y hy => ?_⟩
  · by_cases hm : nm ∈ l
    · rw [hl, ← hnm, List.mem_map] at hm
      obtain ⟨y, hy, rfl⟩ := hm
      obtain ⟨j, hj⟩ := List.mem_iff_getElem?.1 hy
      rw [hat j y hj] at hg
      injection hg with hg
      exact ⟨y, hy, rfl, hg⟩
    · rw [hf.2 nm (by rw [List.take_length]; exact hm)] at hg; cases hg
  · rintro ⟨y, hy, rfl, rfl⟩
    obtain ⟨j, hj⟩ := List.mem_iff_getElem?.1 hy
    exact hat j y hj
  · have h1 : (L.map Rf.nm).Pairwise ltN := by rw [hnm, List.pairwise_map]; exact h.srt
    rw [List.pairwise_map] at h1; exact h1
  · obtain ⟨j, hj⟩ := List.mem_iff_getElem?.1 hy
    obtain ⟨x, hx, h1, h2⟩ := hpair j y hj
    obtain ⟨o1, o2, o3⟩ := h.ok x (List.mem_of_getElem? hx)
    have hk := kept_le (fl := flOf x) o2 (chAt cs j)
    have e1 : y.bs = x.bs.take (keptN (flOf x) (chAt cs j)) := congrArg Fl.bytes h2
    have e2 : y.la = keptN (flOf x) (chAt cs j) := congrArg Fl.lasts h2
    have hk2 : keptN (flOf x) (chAt cs j) ≤ x.bs.length := hk
    refine ⟨by rw [h1]; exact o1, ?_, ?_⟩
    · rw [e1, e2, List.length_take]; omega
    · rw [e1, List.length_take]; omega
/-- What each call answers, and what it leaves. -/
def appE (s : Dk) (nm : ByteArray) : Int := if ckE s.off [nm] = 0 then (if s.named = 1 then 40 else 0) else ckE s.off [nm]
def appS (s : Dk) (nm : ByteArray) (data : List UInt8) : Dk := if ckE s.off [nm] = 0 then (if s.named = 1 then growS { s with off := true } nm (data.take (max s.part 0).toNat) else growS { s with named := s.named - 1, acts := s.acts + 1 } nm data) else s
def synE (s : Dk) (nm : ByteArray) : Int := if errE s nm = 0 then (if s.named = 1 then 40 else 0) else errE s nm
def synS (s : Dk) (nm : ByteArray) : Dk := if errE s nm = 0 then (if s.named = 1 then { s with off := true } else { s with get := upd s.get nm ((s.get nm).map lastF), named := s.named - 1, acts := s.acts + 1 }) else s
def remS (s : Dk) (nm : ByteArray) : Dk := if errE s nm = 0 then (if s.named = 1 then { s with off := true } else { s with get := upd s.get nm none, named := s.named - 1, acts := s.acts + 1 }) else s
def renE (s : Dk) (nm to : ByteArray) : Int := if errR s nm to = 0 then (if s.named = 1 then 40 else 0) else errR s nm to
def renS (s : Dk) (nm to : ByteArray) : Dk := if errR s nm to = 0 then (if s.named = 1 then { s with off := true } else { s with get := upd (upd s.get nm none) to (s.get nm), n := s.n + 1, named := s.named - 1, acts := s.acts + 1 }) else s
def armE (s : Dk) : Int := if s.off then 40 else 0
def armS (s : Dk) (n p : Int) : Dk := if s.off then s else { s with named := (max n 0).toNat, part := p }
theorem err_0 {s : Dk} {nm : ByteArray} (h : errE s nm = 0) : s.off = false ∧ nameOk nm = true ∧ ∃ fl, s.get nm = some fl := by
  unfold errE at h
  cases ho : s.off <;> cases hk : nameOk nm <;> cases hf : s.get nm <;> simp [ho, hk, hf] at h ⊢
theorem ck_0 {s : Dk} {nm : ByteArray} (h : ckE s.off [nm] = 0) : s.off = false ∧ nameOk nm = true := by
  rw [ck_one] at h
  cases ho : s.off <;> cases hk : nameOk nm <;> simp [ho, hk] at h ⊢
theorem errR_0 {s : Dk} {nm to : ByteArray} (h : errR s nm to = 0) : s.off = false ∧ nameOk nm = true ∧ nameOk to = true ∧ ∃ fl, s.get nm = some fl := by
  unfold errR at h
  cases ho : s.off <;> cases hk : nameOk nm <;> cases hk2 : nameOk to <;> cases hf : s.get nm <;> simp [ho, hk, hk2, hf] at h ⊢
end Go.Proofs.Ytonhagoeajhacaa
namespace Go.Proofs.Ytonhagoeajhacaa
open Go.RowKit Go.Sort Go.Shelf

def DkEnd (B : Nat → Prop) (w : World) (g : Nat) (s' : Dk) (w' : World) : Prop := DkAt B w' g s' ∧ Kpt B w w'
theorem DkEnd.same {B : Nat → Prop} {w w' : World} {g : Nat} {s : Dk} (hd : DkAt B w g s) (hb : Below w.heap.size w w') : DkEnd B w g s w' := ⟨hd.below hb, Kpt.of hb⟩
theorem app_det {B : Nat → Prop} {w : World} {g : Nat} {s : Dk} (hd : DkAt B w g s) (hB : Sub B w) (ha : s.acts ≤ 1000000) (hn : s.n ≤ 1000000) (hf : ∀ nm fl, s.get nm = some fl → fl.bytes.length ≤ 1000000000) (nm : ByteArray) (p : Option Addr) (k : Nat) (data : List UInt8) (hdt : SlOf encB 1 w p k data) (hl : data.length ≤ 1000000000) :
    Calls Try.prog 7 #[.pointer (some ⟨g, 0, none⟩), .string nm, .slice p data.length k] w fun e w' => e = .returned (.int .i64 (appE s nm)) ∧ DkEnd B w g (appS s nm data) w' := by
  have hsz : ∀ fl, s.get nm = some fl → fl.bytes.length + data.length ≤ 140737488355328 := fun fl h => by have := hf nm fl h; omega
  unfold appE appS
  by_cases h0 : ckE s.off [nm] = 0
  · obtain ⟨ho, hk⟩ := ck_0 h0
    by_cases h1 : s.named = 1
    · rw [if_pos h0, if_pos h0, if_pos h1, if_pos h1]
      exact append_down hd hB ho hk h1 (by unfold maxLen; omega) p k data hdt hsz (by omega)
    · rw [if_pos h0, if_pos h0, if_neg h1, if_neg h1]
      exact append_yes hd hB ho hk h1 (by omega) (by unfold maxLen; omega) p k data hdt hsz (by omega)
  · rw [if_neg h0, if_neg h0]
    refine (append_no hd h0 p k data.length).mono ?_
    rintro e w' ⟨rfl, hb⟩
    exact ⟨rfl, DkEnd.same hd hb⟩
theorem syn_det {B : Nat → Prop} {w : World} {g : Nat} {s : Dk} (hd : DkAt B w g s) (hB : Sub B w) (ha : s.acts ≤ 1000000) (nm : ByteArray) :
    Calls Try.prog 8 #[.pointer (some ⟨g, 0, none⟩), .string nm] w fun e w' => e = .returned (.int .i64 (synE s nm)) ∧ DkEnd B w g (synS s nm) w' := by
  unfold synE synS
  by_cases h0 : errE s nm = 0
  · obtain ⟨ho, hk, fl, hf⟩ := err_0 h0
    by_cases h1 : s.named = 1
    · rw [if_pos h0, if_pos h0, if_pos h1, if_pos h1]
      exact sync_down hd hB ho hk hf h1
    · rw [if_pos h0, if_pos h0, if_neg h1, if_neg h1, hf]
      exact sync_yes hd hB ho hk hf h1 (by omega)
  · rw [if_neg h0, if_neg h0]
    refine (sync_no hd h0).mono ?_
    rintro e w' ⟨rfl, hb⟩
    exact ⟨rfl, DkEnd.same hd hb⟩
theorem rem_det {B : Nat → Prop} {w : World} {g : Nat} {s : Dk} (hd : DkAt B w g s) (hB : Sub B w) (ha : s.acts ≤ 1000000) (nm : ByteArray) :
    Calls Try.prog 17 #[.pointer (some ⟨g, 0, none⟩), .string nm] w fun e w' => e = .returned (.int .i64 (synE s nm)) ∧ DkEnd B w g (remS s nm) w' := by
  unfold synE remS
  by_cases h0 : errE s nm = 0
  · obtain ⟨ho, hk, fl, hf⟩ := err_0 h0
    by_cases h1 : s.named = 1
    · rw [if_pos h0, if_pos h0, if_pos h1, if_pos h1]
      exact remove_down hd hB ho hk hf h1
    · rw [if_pos h0, if_pos h0, if_neg h1, if_neg h1]
      exact remove_yes hd hB ho hk hf h1 (by omega)
  · rw [if_neg h0, if_neg h0]
    refine (remove_no hd h0).mono ?_
    rintro e w' ⟨rfl, hb⟩
    exact ⟨rfl, DkEnd.same hd hb⟩
theorem ren_det {B : Nat → Prop} {w : World} {g : Nat} {s : Dk} (hd : DkAt B w g s) (hB : Sub B w) (ha : s.acts ≤ 1000000) (hn : s.n ≤ 1000000) (nm to : ByteArray) :
    Calls Try.prog 16 #[.pointer (some ⟨g, 0, none⟩), .string nm, .string to] w fun e w' => e = .returned (.int .i64 (renE s nm to)) ∧ DkEnd B w g (renS s nm to) w' := by
  unfold renE renS
  by_cases h0 : errR s nm to = 0
  · obtain ⟨ho, hk, hk2, fl, hf⟩ := errR_0 h0
    by_cases h1 : s.named = 1
    · rw [if_pos h0, if_pos h0, if_pos h1, if_pos h1]
      exact rename_down hd hB ho hk hk2 hf h1
    · rw [if_pos h0, if_pos h0, if_neg h1, if_neg h1, hf]
      exact rename_yes hd hB ho hk hk2 hf h1 (by omega) (by unfold maxLen; omega)
  · rw [if_neg h0, if_neg h0]
    by_cases h1 : ckE s.off [nm, to] = 0
    · have h2 : s.off = false ∧ nameOk nm = true ∧ nameOk to = true := by
        rw [ck_two] at h1
        cases ho : s.off <;> cases hk : nameOk nm <;> cases hk2 : nameOk to <;> simp [ho, hk, hk2] at h1 ⊢
      have h3 : s.get nm = none := by
        unfold errR at h0
        cases hf : s.get nm with
        | none => rfl
        | some fl => exfalso; apply h0; rw [h2.1, h2.2.1, h2.2.2, hf]; rfl
      have h4 : errR s nm to = 41 := by unfold errR; rw [h2.1, h2.2.1, h2.2.2, h3]; rfl
      rw [h4]
      refine (rename_no2 hd h2.1 h2.2.1 h2.2.2 h3).mono ?_
      rintro e w' ⟨rfl, hb⟩
      exact ⟨rfl, DkEnd.same hd hb⟩
    · have h4 : errR s nm to = ckE s.off [nm, to] := by
        rw [ck_two] at h1 ⊢
        unfold errR
        cases ho : s.off <;> cases hk : nameOk nm <;> cases hk2 : nameOk to <;> simp [ho, hk, hk2] at h1 ⊢
      rw [h4]
      refine (rename_no1 hd h1).mono ?_
      rintro e w' ⟨rfl, hb⟩
      exact ⟨rfl, DkEnd.same hd hb⟩
theorem arm_det {B : Nat → Prop} {w : World} {g : Nat} {s : Dk} (hd : DkAt B w g s) (hB : Sub B w) (n p : Int) (hn : n ≤ 9223372036854775807) :
    Calls Try.prog 14 #[.pointer (some ⟨g, 0, none⟩), .int .i64 n, .int .i64 p] w fun e w' => e = .returned (.int .i64 (armE s)) ∧ DkEnd B w g (armS s n p) w' := by
  unfold armE armS
  by_cases ho : s.off = true
  · rw [if_pos ho, if_pos ho]
    refine (arm_no hd n p ho).mono ?_
    rintro e w' ⟨rfl, rfl⟩
    exact ⟨rfl, DkEnd.same hd (Below.refl _ _)⟩
  · rw [if_neg ho, if_neg ho]
    exact arm_yes hd hB n p hn (by simpa using ho)
/-- The document's calls. -/
def RfEnd (P : Nat → Prop) (w : World) (g : Nat) (s' : Dk) (Z N : Nat) (w' : World) : Prop := ∃ r', Rel s' r' Z ∧ r'.fs.length ≤ N ∧ REnd P w g r' w'
theorem RfEnd.of {P : Nat → Prop} {w w' : World} {g : Nat} {r' : Rk} {s' : Dk} {Z N : Nat} (hE : REnd P w g r' w') (h : Rel s' r' Z) (hN : r'.fs.length ≤ N) : RfEnd P w g s' Z N w' := ⟨r', h, hN, hE⟩
def grF (o : Option Fl) (dt : List UInt8) : Fl := match o with
  | some fl => ⟨fl.bytes ++ dt, fl.lasts⟩
  | none => ⟨dt, 0⟩
theorem grow_get (s : Dk) (nm : ByteArray) (dt : List UInt8) : (growS s nm dt).get = upd s.get nm (some (grF (s.get nm) dt)) ∧ (growS s nm dt).acts = s.acts ∧ (growS s nm dt).off = s.off ∧ (growS s nm dt).named = s.named ∧ (growS s nm dt).part = s.part := by
  unfold growS grF
  cases s.get nm <;> exact ⟨rfl, rfl, rfl, rfl, rfl⟩
theorem grow_rel {s : Dk} {fs : List Rf} {Z d : Nat} (h : RelF s.get fs Z) {nm : ByteArray} (hk : nameOk nm = true) {dt : List UInt8} (hd : dt.length ≤ d) {f : Rf} (hn : f.nm = nm) (hf : flOf f = grF (s.get nm) dt) : RelF (growS s nm dt).get (putR fs f) (Z + d) := by
  rw [(grow_get s nm dt).1, ← hf, ← hn]
  refine (h.mono (Nat.le_add_right Z d)).put f ⟨by rw [hn]; exact hk, ?_⟩
  have e1 : f.bs = (grF (s.get nm) dt).bytes := congrArg Fl.bytes hf
  have e2 : f.la = (grF (s.get nm) dt).lasts := congrArg Fl.lasts hf
  rw [e1, e2]
  unfold grF
  cases hg : s.get nm with
  | none => exact ⟨Nat.zero_le _, by show dt.length ≤ _; omega⟩
  | some fl =>
    obtain ⟨_, o2, o3⟩ := h.fit hg
    exact ⟨by show fl.lasts ≤ (fl.bytes ++ dt).length; rw [List.length_append]; omega, by show (fl.bytes ++ dt).length ≤ _; rw [List.length_append]; omega⟩
theorem Rel.at {s : Dk} {r : Rk} {Z : Nat} (h : Rel s r Z) {nm : ByteArray} {fl : Fl} (hf : s.get nm = some fl) : ∃ (i : Nat) (x : Rf), r.fs[i]? = some x ∧ x.nm = nm ∧ (∀ (j : Nat) (y : Rf), j < i → r.fs[j]? = some y → y.nm ≠ nm) ∧ flOf x = fl := by
  obtain ⟨i, x, h1, h2, h3⟩ := has_yes (show hasN r.fs nm = true by rw [h.f.has nm, hf]; rfl)
  refine ⟨i, x, h1, h2, h3, ?_⟩
  have := (h.f.get nm (flOf x)).2 ⟨x, List.mem_of_getElem? h1, h2, rfl⟩
  rw [hf] at this
  injection this with this
  exact this.symm
theorem Rel.small {s : Dk} {r : Rk} {Z : Nat} (h : Rel s r Z) : ∀ x ∈ r.fs, x.nm.size ≤ 32 := fun x hx => name_size (h.f.ok x hx).1
theorem RfEnd.same {P : Nat → Prop} {w : World} {g c : Nat} {r : Rk} {q : Option Addr} {s : Dk} {Z Z' N : Nat} (h : RIn P w g r q c) (hr : Rel s r Z) (hz : Z ≤ Z') (hN : r.fs.length ≤ N) : RfEnd P w g s Z' N w := ⟨r, hr.mono hz, hN, REnd.refl h⟩
theorem take_min {dt : List UInt8} {a : Int} {m : Nat} (hm : min (max a 0) (dt.length : Int) = (m : Int)) : dt.take m = dt.take (max a 0).toNat := by
  rw [List.take_eq_take_min, show m = min (max a 0).toNat dt.length by omega]
  conv => rhs; rw [List.take_eq_take_min]
  congr 1
  omega
theorem rapp_det {P : Nat → Prop} {w : World} {g c : Nat} {r : Rk} {q : Option Addr} {s : Dk} {Z : Nat} (h : RIn P w g r q c) (hr : Rel s r Z) (hl : r.fs.length ≤ 1000) (ha : s.acts ≤ 1000000) (hZ : Z ≤ 1000000000) (nm : ByteArray) (p : Option Addr) (k : Nat) (data : List UInt8) (hd : SlOf encB 1 w p k data) (hpg : 0 < data.length → ∀ a, p = some a → a.block ≠ g) (hdl : data.length ≤ 1000000000) :
    Calls Try.prog 18 #[.pointer (some ⟨g, 0, none⟩), .string nm, .slice p data.length k] w fun e w' => e = .returned (.int .i64 (appE s nm)) ∧ RfEnd P w g (appS s nm data) (Z + data.length) (r.fs.length + 1) w' := by
  have hac : r.acts ≤ 4611686018427387904 := by rw [hr.acts]; omega
  unfold appE appS
  by_cases h0 : ckE s.off [nm] = 0
  · obtain ⟨ho, hk⟩ := ck_0 h0
    obtain ⟨pn, pp⟩ := hr.pw ho
    have he : refE r nm nm false = 0 := by rw [hr.ck, h0]
    by_cases h1 : s.named = 1
    · rw [if_pos h0, if_pos h0, if_pos h1, if_pos h1]
      obtain ⟨m, hm⟩ : ∃ m : Nat, min (max r.part 0) (data.length : Int) = (m : Int) := ⟨(min (max r.part 0) (data.length : Int)).toNat, by omega⟩
      have hmt : data.take m = data.take (max s.part 0).toNat := by rw [← pp]; exact take_min hm
      have hml : (data.take m).length ≤ data.length := by rw [List.length_take]; omega
      cases hf : s.get nm with
      | some fl =>
        obtain ⟨i, x, hx, hn, hb, hfl⟩ := hr.at hf
        refine (rappend_down h nm p k data hd hpg (by omega) hr.small he (by rw [pn]; exact h1) hdl hx hn hb (by have := (hr.f.ok x (List.mem_of_getElem? hx)).2.2; omega) m hm).mono ?_
        rintro e w' ⟨rfl, q5, c5, hE⟩
        obtain ⟨_, g2, g3, g4, g5⟩ := grow_get { s with off := true } nm (data.take m)
        rw [← hmt]
        refine ⟨rfl, RfEnd.of hE ⟨?_, ?_, ?_, ?_⟩ (len_put _ _)⟩
        · refine grow_rel (s := { s with off := true }) hr.f hk hml hn ?_
          show (⟨x.bs ++ data.take m, x.la⟩ : Fl) = grF (s.get nm) _; rw [hf, ← hfl]; rfl
        · rw [g2]; exact hr.acts
        · rw [g3]
        · rw [g3]; intro e; cases e
      | none =>
        have hnone : ∀ y ∈ r.fs, y.nm ≠ nm := has_no (by rw [hr.f.has nm, hf]; rfl)
        refine (rappend_newdown h nm p k data hd hpg (by omega) hr.small he (by rw [pn]; exact h1) hdl hnone m hm).mono ?_
        rintro e w' ⟨rfl, q5, c5, hE⟩
        obtain ⟨_, g2, g3, g4, g5⟩ := grow_get { s with off := true } nm (data.take m)
        rw [← hmt]
        refine ⟨rfl, RfEnd.of hE ⟨?_, ?_, ?_, ?_⟩ (len_put _ _)⟩
        · refine grow_rel (s := { s with off := true }) hr.f hk hml rfl ?_
          show (⟨data.take m, 0⟩ : Fl) = grF (s.get nm) _; rw [hf]; rfl
        · rw [g2]; exact hr.acts
        · rw [g3]
        · rw [g3]; intro e; cases e
    · rw [if_pos h0, if_pos h0, if_neg h1, if_neg h1]
      obtain ⟨_, g2, g3, g4, g5⟩ := grow_get { s with named := s.named - 1, acts := s.acts + 1 } nm data
      cases hf : s.get nm with
      | some fl =>
        obtain ⟨i, x, hx, hn, hb, hfl⟩ := hr.at hf
        refine (rappend_yes h nm p k data hd hpg (by omega) hr.small he (by rw [pn]; exact h1) hac hdl hx hn hb (by have := (hr.f.ok x (List.mem_of_getElem? hx)).2.2; omega)).mono ?_
        rintro e w' ⟨rfl, q5, c5, hE⟩
        refine ⟨rfl, RfEnd.of hE ⟨?_, ?_, ?_, ?_⟩ (len_put _ _)⟩
        · refine grow_rel (s := { s with named := s.named - 1, acts := s.acts + 1 }) hr.f hk (Nat.le_refl _) hn ?_
          show (⟨x.bs ++ data, x.la⟩ : Fl) = grF (s.get nm) _; rw [hf, ← hfl]; rfl
        · rw [g2]; show r.acts + 1 = s.acts + 1; rw [hr.acts]
        · rw [g3]; exact hr.off
        · rw [g4, g5]; intro _; exact ⟨by show r.named - 1 = s.named - 1; rw [pn], pp⟩
      | none =>
        have hnone : ∀ y ∈ r.fs, y.nm ≠ nm := has_no (by rw [hr.f.has nm, hf]; rfl)
        refine (rappend_new h nm p k data hd hpg (by omega) hr.small he (by rw [pn]; exact h1) hac hdl hnone).mono ?_
        rintro e w' ⟨rfl, q5, c5, hE⟩
        refine ⟨rfl, RfEnd.of hE ⟨?_, ?_, ?_, ?_⟩ (len_put _ _)⟩
        · refine grow_rel (s := { s with named := s.named - 1, acts := s.acts + 1 }) hr.f hk (Nat.le_refl _) rfl ?_
          show (⟨data, 0⟩ : Fl) = grF (s.get nm) _; rw [hf]; rfl
        · rw [g2]; show r.acts + 1 = s.acts + 1; rw [hr.acts]
        · rw [g3]; exact hr.off
        · rw [g4, g5]; intro _; exact ⟨by show r.named - 1 = s.named - 1; rw [pn], pp⟩
  · rw [if_neg h0, if_neg h0]
    refine (rappend_no h nm p k data.length (by omega) (by rw [hr.ck]; exact h0)).mono ?_
    rintro e w' ⟨rfl, rfl⟩
    exact ⟨by rw [hr.ck], RfEnd.same h hr (Nat.le_add_right _ _) (Nat.le_succ _)⟩
theorem rsyn_det {P : Nat → Prop} {w : World} {g c : Nat} {r : Rk} {q : Option Addr} {s : Dk} {Z : Nat} (h : RIn P w g r q c) (hr : Rel s r Z) (hl : r.fs.length ≤ 1000) (ha : s.acts ≤ 1000000) (nm : ByteArray) :
    Calls Try.prog 19 #[.pointer (some ⟨g, 0, none⟩), .string nm] w fun e w' => e = .returned (.int .i64 (synE s nm)) ∧ RfEnd P w g (synS s nm) Z (r.fs.length + 1) w' := by
  have hac : r.acts ≤ 4611686018427387904 := by rw [hr.acts]; omega
  unfold synE synS
  by_cases h0 : errE s nm = 0
  · obtain ⟨ho, hk, fl, hf⟩ := err_0 h0
    obtain ⟨pn, pp⟩ := hr.pw ho
    have he : refE r nm nm true = 0 := by rw [hr.err, h0]
    by_cases h1 : s.named = 1
    · rw [if_pos h0, if_pos h0, if_pos h1, if_pos h1]
      refine (rsync_down h nm (by omega) he (by rw [pn]; exact h1)).mono ?_
      rintro e w' ⟨rfl, hE⟩
      exact ⟨rfl, RfEnd.of hE ⟨hr.f, hr.acts, rfl, fun e => by cases e⟩ (Nat.le_succ _)⟩
    · rw [if_pos h0, if_pos h0, if_neg h1, if_neg h1, hf]
      obtain ⟨i, x, hx, hn, hb, hfl⟩ := hr.at hf
      obtain ⟨o1, o2, o3⟩ := hr.f.ok x (List.mem_of_getElem? hx)
      refine (rsync_yes h nm (by omega) hr.small he (by rw [pn]; exact h1) hac hx hn hb).mono ?_
      rintro e w' ⟨rfl, hE⟩
      refine ⟨rfl, RfEnd.of hE ⟨?_, by show r.acts + 1 = s.acts + 1; rw [hr.acts], hr.off, fun _ => ⟨by show r.named - 1 = s.named - 1; rw [pn], pp⟩⟩ (len_put _ _)⟩
      have := hr.f.put (lastR x) ⟨o1, Nat.le_refl _, o3⟩
      rw [show (lastR x).nm = nm from hn, show flOf (lastR x) = lastF fl by rw [← hfl]; rfl] at this
      exact this
  · rw [if_neg h0, if_neg h0]
    refine (rsync_no h nm (by omega) (by rw [hr.err]; exact h0)).mono ?_
    rintro e w' ⟨rfl, rfl⟩
    exact ⟨by rw [hr.err], RfEnd.same h hr (Nat.le_refl _) (Nat.le_succ _)⟩
theorem rrem_det {P : Nat → Prop} {w : World} {g c : Nat} {r : Rk} {q : Option Addr} {s : Dk} {Z : Nat} (h : RIn P w g r q c) (hr : Rel s r Z) (hl : r.fs.length ≤ 1000) (ha : s.acts ≤ 1000000) (nm : ByteArray) :
    Calls Try.prog 21 #[.pointer (some ⟨g, 0, none⟩), .string nm] w fun e w' => e = .returned (.int .i64 (synE s nm)) ∧ RfEnd P w g (remS s nm) Z (r.fs.length + 1) w' := by
  have hac : r.acts ≤ 4611686018427387904 := by rw [hr.acts]; omega
  unfold synE remS
  by_cases h0 : errE s nm = 0
  · obtain ⟨ho, hk, fl, hf⟩ := err_0 h0
    obtain ⟨pn, pp⟩ := hr.pw ho
    have he : refE r nm nm true = 0 := by rw [hr.err, h0]
    by_cases h1 : s.named = 1
    · rw [if_pos h0, if_pos h0, if_pos h1, if_pos h1]
      refine (rremove_down h nm (by omega) he (by rw [pn]; exact h1)).mono ?_
      rintro e w' ⟨rfl, hE⟩
      exact ⟨rfl, RfEnd.of hE ⟨hr.f, hr.acts, rfl, fun e => by cases e⟩ (Nat.le_succ _)⟩
    · rw [if_pos h0, if_pos h0, if_neg h1, if_neg h1]
      refine (rremove_yes h nm (by omega) he (by rw [pn]; exact h1) hac).mono ?_
      rintro e w' ⟨rfl, hE⟩
      exact ⟨rfl, RfEnd.of hE ⟨hr.f.drop nm, by show r.acts + 1 = s.acts + 1; rw [hr.acts], hr.off, fun _ => ⟨by show r.named - 1 = s.named - 1; rw [pn], pp⟩⟩ (Nat.le_succ_of_le (drop_len _ _))⟩
  · rw [if_neg h0, if_neg h0]
    refine (rremove_no h nm (by omega) (by rw [hr.err]; exact h0)).mono ?_
    rintro e w' ⟨rfl, rfl⟩
    exact ⟨by rw [hr.err], RfEnd.same h hr (Nat.le_refl _) (Nat.le_succ _)⟩
theorem rren_det {P : Nat → Prop} {w : World} {g c : Nat} {r : Rk} {q : Option Addr} {s : Dk} {Z : Nat} (h : RIn P w g r q c) (hr : Rel s r Z) (hl : r.fs.length ≤ 1000) (ha : s.acts ≤ 1000000) (nm to : ByteArray) :
    Calls Try.prog 20 #[.pointer (some ⟨g, 0, none⟩), .string nm, .string to] w fun e w' => e = .returned (.int .i64 (renE s nm to)) ∧ RfEnd P w g (renS s nm to) Z (r.fs.length + 1) w' := by
  have hac : r.acts ≤ 4611686018427387904 := by rw [hr.acts]; omega
  unfold renE renS
  by_cases h0 : errR s nm to = 0
  · obtain ⟨ho, hk, hk2, fl, hf⟩ := errR_0 h0
    obtain ⟨pn, pp⟩ := hr.pw ho
    have he : refE r nm to true = 0 := by rw [hr.ren, h0]
    by_cases h1 : s.named = 1
    · rw [if_pos h0, if_pos h0, if_pos h1, if_pos h1]
      refine (rrename_down h nm to (by omega) he (by rw [pn]; exact h1)).mono ?_
      rintro e w' ⟨rfl, hE⟩
      exact ⟨rfl, RfEnd.of hE ⟨hr.f, hr.acts, rfl, fun e => by cases e⟩ (Nat.le_succ _)⟩
    · rw [if_pos h0, if_pos h0, if_neg h1, if_neg h1, hf]
      obtain ⟨i, x, hx, hn, hb, hfl⟩ := hr.at hf
      obtain ⟨o1, o2, o3⟩ := hr.f.ok x (List.mem_of_getElem? hx)
      refine (rrename_yes h nm to (by omega) hr.small he (by rw [pn]; exact h1) hac hx hn hb).mono ?_
      rintro e w' ⟨rfl, hE⟩
      refine ⟨rfl, RfEnd.of hE ⟨?_, by show r.acts + 1 = s.acts + 1; rw [hr.acts], hr.off, fun _ => ⟨by show r.named - 1 = s.named - 1; rw [pn], pp⟩⟩ (Nat.le_trans (len_put _ _) (Nat.succ_le_succ (drop_len _ _)))⟩
      have := (hr.f.drop nm).put { x with nm := to } ⟨hk2, o2, o3⟩
      rw [show flOf { x with nm := to } = fl by rw [← hfl]; rfl] at this
      exact this
  · rw [if_neg h0, if_neg h0]
    refine (rrename_no h nm to (by omega) (by rw [hr.ren]; exact h0)).mono ?_
    rintro e w' ⟨rfl, rfl⟩
    exact ⟨by rw [hr.ren], RfEnd.same h hr (Nat.le_refl _) (Nat.le_succ _)⟩
theorem rarm_det {P : Nat → Prop} {w : World} {g c : Nat} {r : Rk} {q : Option Addr} {s : Dk} {Z : Nat} (h : RIn P w g r q c) (hr : Rel s r Z) (n p : Int) (hn : n ≤ 9223372036854775807) :
    Calls Try.prog 22 #[.pointer (some ⟨g, 0, none⟩), .int .i64 n, .int .i64 p] w fun e w' => e = .returned (.int .i64 (armE s)) ∧ RfEnd P w g (armS s n p) Z (r.fs.length + 1) w' := by
  unfold armE armS
  by_cases ho : s.off = true
  · rw [if_pos ho, if_pos ho]
    refine (rarm_no h n p (by rw [hr.off]; exact ho)).mono ?_
    rintro e w' ⟨rfl, rfl⟩
    exact ⟨rfl, RfEnd.same h hr (Nat.le_refl _) (Nat.le_succ _)⟩
  · rw [if_neg ho, if_neg ho]
    refine (rarm_yes h n p hn (by rw [hr.off]; simpa using ho)).mono ?_
    rintro e w' ⟨rfl, h2, hg⟩
    exact ⟨rfl, RfEnd.of (REnd.same h h2 hg) ⟨hr.f, hr.acts, hr.off, fun _ => ⟨rfl, rfl⟩⟩ (Nat.le_succ _)⟩
end Go.Proofs.Ytonhagoeajhacaa
namespace Go.Proofs.Ytonhagoeajhacaa
open Go.RowKit Go.Sort Go.Shelf

/-- The disk keeps off the blocks of B, among them those of P, where the document's lies, and its box. -/
structure J (B P : Nat → Prop) (w : World) (d g : Nat) (s : Dk) (r : Rk) : Prop where
  sub : Sub B w
  dk : DkAt B w d s
  bg : B g
  pb : ∀ i, P i → B i
  ref : RAt P w g r
theorem J.below {B P : Nat → Prop} {w w' : World} {d g : Nat} {s : Dk} {r : Rk} (h : J B P w d g s r) (hb : Below w.heap.size w w') : J B P w' d g s r := ⟨h.sub.trans hb.size, h.dk.below hb, h.bg, h.pb, h.ref.below hb⟩
theorem J.drew {B P : Nat → Prop} {w : World} {d g : Nat} {s : Dk} {r : Rk} (h : J B P w d g s r) : J B P w.drew d g s r := h.below (Below.refl _ _).drew
theorem J.disk {B P : Nat → Prop} {w w' : World} {d g : Nat} {s s' : Dk} {r : Rk} (h : J B P w d g s r) (he : DkEnd B w d s' w') : J B P w' d g s' r := by
  obtain ⟨q, c, hi⟩ := h.ref
  refine ⟨h.sub.trans he.2.size, he.1, h.bg, h.pb, q, c, hi.kept he.2.size fun i hi' hl => he.2.block i ?_ hl⟩
  rcases hi' with hi' | rfl
  · exact h.pb i hi'
  · exact h.bg
def more (B : Nat → Prop) (w w' : World) : Nat → Prop := fun i => B i ∨ (w.heap.size ≤ i ∧ i < w'.heap.size)
theorem more_dk {B : Nat → Prop} {w w' : World} {d g : Nat} {s : Dk} (h : DkAt B w d s) (hB : B g) (hg : w.grownBy w' (some g)) : DkAt (more B w w') w' d s := by
  have h1 : DkAt (more B w w') w d s := h.more fun i hi => by
    rcases hi with hi | hi
    · exact Or.inl hi
    · exact Or.inr hi.1
  exact h1.lies fun i hi2 hl => hg.block i hl (by intro e; injection e with e; exact hi2 (Or.inl (e ▸ hB)))
theorem more_sub {B : Nat → Prop} {w w' : World} (h : Sub B w) (hs : w.heap.size ≤ w'.heap.size) : Sub (more B w w') w' := fun i hi => by
  rcases hi with hi | hi
  · exact Nat.lt_of_lt_of_le (h i hi) hs
  · exact hi.2
theorem J.refs {B P : Nat → Prop} {w w' : World} {d g : Nat} {s : Dk} {r r' : Rk} (h : J B P w d g s r) (he : REnd P w g r' w') : J (more B w w') (more P w w') w' d g s r' := by
  obtain ⟨⟨q, c, hi⟩, hg⟩ := he
  have hgl := h.sub g h.bg
  have hpg : ¬ P g := by obtain ⟨_, _, h1⟩ := h.ref; exact h1.pg
  refine ⟨more_sub h.sub hg.size, more_dk h.dk h.bg hg, Or.inl h.bg, fun i hi => ?_, q, c, hi.mono (fun i h1 hl => ?_) (fun h2 => ?_)⟩
  · rcases hi with hi | hi
    · exact Or.inl (h.pb i hi)
    · exact Or.inr hi
  · rcases h1 with h1 | h1
    · exact Or.inl h1
    · exact Or.inr ⟨h1, hl⟩
  · rcases h2 with h2 | h2
    · exact hpg h2
    · omega
/-- New memory that the disk keeps off. -/
theorem J.grow {B P : Nat → Prop} {w w' : World} {d g : Nat} {s : Dk} {r : Rk} (h : J B P w d g s r) (hb : Below w.heap.size w w') : J (more B w w') P w' d g s r :=
  ⟨more_sub h.sub hb.size, more_dk h.dk h.bg ⟨hb.os, hb.tape, hb.output, hb.size, fun i hi _ => hb.block i hi⟩, Or.inl h.bg, fun i hi => Or.inl (h.pb i hi), h.ref.below hb⟩
/-- All but the document's box stays. -/
def Fr (B : Nat → Prop) (g : Nat) (w w' : World) : Prop := Kpt (fun i => B i ∧ i ≠ g) w w'
theorem Fr.disk {B : Nat → Prop} {w w' : World} {d g : Nat} {s' : Dk} (he : DkEnd B w d s' w') : Fr B g w w' := he.2.mono fun _ hi => hi.1
theorem Fr.refs {B P : Nat → Prop} {w w' : World} {g : Nat} {r' : Rk} (he : REnd P w g r' w') : Fr B g w w' := ⟨he.2.os, he.2.tape, he.2.output, he.2.size, fun i hi hl => he.2.block i hl (by intro e; injection e with e; exact hi.2 e)⟩
theorem Fr.trans {B B' : Nat → Prop} {w w1 w2 : World} {g : Nat} (h : Fr B g w w1) (h2 : Fr B' g w1 w2) (hB : ∀ i, B i → B' i) : Fr B g w w2 := Kpt.trans h (Kpt.mono h2 fun i hi => ⟨hB i hi.1, hi.2⟩)
theorem Fr.below {B : Nat → Prop} {w w' : World} {g : Nat} (h : Below w.heap.size w w') : Fr B g w w' := Kpt.of h
theorem Fr.blw {B : Nat → Prop} {w w' : World} {g A : Nat} (h : Fr B g w w') (hA : ∀ i, i < A → B i) (hg : A ≤ g) (hw : A ≤ w.heap.size) : Below A w w' := Kpt.below h fun i hi => ⟨⟨hA i hi, by omega⟩, by omega⟩
/-- OverWords of a list of the call's own. -/
theorem overS0 (w : World) : Calls Try.prog 45 #[.slice none 0 0] w fun e w' => e = .returned (.tuple #[]) ∧ w.grownBy w' none := by
  have mixed : Try.prog.follows .mixedOrders = true := by kernel_rfl
  obtain ⟨i0, hi, hz0, hz1, hz2⟩ := info_parts Try.info9
  have Hi := hide hi
  have Hz := hide (And.intro hz0 (And.intro hz1 hz2))
  clear hi hz0 hz1 hz2
  go_enter Try.func45, Try.ntmps45
  go_wp2
  go_loopw [6] (fun i wr => i = .int .i64 0 ∧ wr = w) (fun _ _ => 0)
  case atStart => exact ⟨rfl, rfl⟩
  case round =>
    obtain ⟨rfl, hw⟩ := hrel
    obtain rfl := hw.symm
    go_wp2_with (at_builtin; refine wpList_append_own_at _ rfl _ _ 51 rfl 0 9 i0 (.string ⟨#[]⟩) 1 16 Try.underlying51 (unhide Hi) (unhide Hz).1 (unhide Hz).2.1 (unhide Hz).2.2 rfl (by decide) _ 0 [] rfl (World.ownsRow_nil _ _ _ _) ⟨w.heap.size, 0, none⟩ 2 2 Ov.nw2S.toList rfl rfl (World.news_of_block (heap_alloc_new w _)) (by decide) (by unfold maxLen; omega) (by omega) (Nat.zero_le _) ?_; intro v' w2 hown hgrow hnil hat; (obtain ⟨g2, cp2, rfl, hB2, hlt2⟩ := hown.form (by omega)); (obtain ⟨⟨vv, cc⟩, ff⟩ := Ov.RawK.cell ⟨_, hown⟩ 0 (by omega)); have Hgrow := hide hgrow; have Hat := hide hat; clear hown hgrow hnil hat)
    have Hend : Hid (w.grownBy (w2.setCell ⟨g2, 0, none⟩ (.string ⟨#[103, 114, 111, 119, 110, 32, 115, 116, 105, 108, 108]⟩)) none) := hide (by
      have h1 := Ov.grown_two (Ov.grown_refl w none) (Ov.grown_alloc w (.cells Ov.nw2S 9) none) (fun j hj => by cases hj)
      have h2 := Ov.grown_two h1 (unhide Hgrow) (fun j hj => Or.inl hj)
      refine Ov.grown_two h2 (Ov.grown_set (Ov.grown_refl w2 (some g2)) _ _) (fun j hj => ?_)
      cases hj
      rcases unhide Hat with h | h
      · cases h
      · have h3 : g2 = (w.alloc (.cells Ov.nw2S 9)).heap.size := by simpa [Value.ownBlock] using h
        exact Or.inr (by rw [h3]; simp))
    go_wp2
    exact bodyPost_end (v := .tuple #[]) (by simp [results, go_sem]) rfl ⟨rfl, unhide Hend⟩
theorem over_own {B : Nat} {w : World} {q : Option Addr} {cap : Nat} {l : List ByteArray} (h : OwnK encS 9 1 B w q cap l) (hB : B ≤ w.heap.size) (hl : l.length ≤ 1000000) :
    Calls Try.prog 45 #[.slice q l.length cap] w fun e w' => e = .returned (.tuple #[]) ∧ w.grownBy w' (q.map (·.block)) := by
  cases q with
  | none =>
    have h0 := h.ls.1 rfl
    rw [h0.1, h0.2]
    exact overS0 w
  | some p =>
    have hp : ∃ g, p = ⟨g, 0, none⟩ := by
      rcases h.2 with ⟨h1, _⟩ | ⟨g, cp, cur, hv, _⟩
      · cases h1
      · injection hv with h1; injection h1 with h1; exact ⟨g, h1⟩
    obtain ⟨g, rfl⟩ := hp
    exact Ov.overS B g l.length cap w (by omega) hB ⟨_, h⟩
def nl (s : Dk) (r : Rk) : List ByteArray := if s.off then [] else r.fs.map Rf.nm
theorem dnames {B : Nat → Prop} {w : World} {g : Nat} {s : Dk} {r : Rk} {Z : Nat} (hd : DkAt B w g s) (hr : Rel s r Z) (hn : s.n ≤ 1000) :
    Calls Try.prog 15 #[.pointer (some ⟨g, 0, none⟩)] w fun e w' => (∃ q cap, e = .returned (.slice q (nl s r).length cap) ∧ OwnK encS 9 1 w.heap.size w' q cap (nl s r)) ∧ Below w.heap.size w w' := by
  unfold nl
  cases ho : s.off with
  | true =>
    refine (names_off hd ho).mono ?_
    rintro e w' ⟨rfl, rfl⟩
    exact ⟨⟨none, 0, rfl, OwnK.nil _ _⟩, Below.refl _ _⟩
  | false =>
    refine (names_any hd (by omega) ho).mono ?_
    rintro e w' ⟨⟨q, cap, l, rfl, o, hN, _⟩, hb⟩
    obtain rfl := names_unique hN hr.f.names
    exact ⟨⟨q, cap, rfl, o⟩, hb⟩
theorem rnamesU {P : Nat → Prop} {w : World} {g c : Nat} {r : Rk} {q : Option Addr} {s : Dk} {Z : Nat} (h : RIn P w g r q c) (hr : Rel s r Z) (hl : r.fs.length ≤ 1000) :
    Calls Try.prog 47 #[.pointer (some ⟨g, 0, none⟩)] w fun e w' => (∃ q cap, e = .returned (.slice q (nl s r).length cap) ∧ OwnK encS 9 1 w.heap.size w' q cap (nl s r)) ∧ Below w.heap.size w w' := by
  unfold nl
  cases ho : s.off with
  | true =>
    refine (rnames_off h (by rw [hr.off]; exact ho) (by omega)).mono ?_
    rintro e w' ⟨rfl, rfl⟩
    exact ⟨⟨none, 0, rfl, OwnK.nil _ _⟩, Below.refl _ _⟩
  | false =>
    refine (rnames_on h (by rw [hr.off]; exact ho) (by omega)).mono ?_
    rintro e w' ⟨⟨q, cap, rfl, o⟩, hb⟩
    exact ⟨⟨q, cap, by simp, o⟩, hb⟩
theorem nl_len (s : Dk) (r : Rk) : (nl s r).length ≤ r.fs.length := by unfold nl; cases s.off <;> simp
def rdB (s : Dk) (nm : ByteArray) : List UInt8 := if errE s nm = 0 then ((s.get nm).map Fl.bytes).getD [] else []
def lsN (s : Dk) (nm : ByteArray) : Nat := if errE s nm = 0 then ((s.get nm).map fun fl => fl.bytes.length - fl.lasts).getD 0 else 0
theorem rd_len {s : Dk} {r : Rk} {Z : Nat} (hr : Rel s r Z) (nm : ByteArray) : (rdB s nm).length ≤ Z ∧ lsN s nm ≤ Z := by
  unfold rdB lsN
  by_cases h0 : errE s nm = 0
  · obtain ⟨_, _, fl, hf⟩ := err_0 h0
    have := (hr.f.fit hf).2.2
    rw [if_pos h0, if_pos h0, hf]
    exact ⟨this, Nat.le_trans (Nat.sub_le _ _) this⟩
  · rw [if_neg h0, if_neg h0]; exact ⟨Nat.zero_le _, Nat.zero_le _⟩
theorem dread {B : Nat → Prop} {w : World} {g : Nat} {s : Dk} {r : Rk} {Z : Nat} (hd : DkAt B w g s) (hr : Rel s r Z) (hZ : Z ≤ 1000000000) (nm : ByteArray) :
    Calls Try.prog 13 #[.pointer (some ⟨g, 0, none⟩), .string nm] w fun e w' => (∃ q c, e = .returned (.tuple #[.slice q (rdB s nm).length c, .int .i64 (errE s nm)]) ∧ OwnK encB 5 1 w.heap.size w' q c (rdB s nm)) ∧ Below w.heap.size w w' := by
  unfold rdB
  by_cases h0 : errE s nm = 0
  · obtain ⟨ho, hk, fl, hf⟩ := err_0 h0
    rw [if_pos h0, hf, h0]
    exact read_yes hd ho hk hf (by have := (hr.f.fit hf).2.2; omega)
  · rw [if_neg h0]
    refine (read_no hd h0).mono ?_
    rintro e w' ⟨rfl, hb⟩
    exact ⟨⟨none, 0, rfl, OwnK.nil _ _⟩, hb⟩
theorem rreadU {P : Nat → Prop} {w : World} {g c : Nat} {r : Rk} {q : Option Addr} {s : Dk} {Z : Nat} (h : RIn P w g r q c) (hr : Rel s r Z) (hl : r.fs.length ≤ 1000) (nm : ByteArray) :
    Calls Try.prog 48 #[.pointer (some ⟨g, 0, none⟩), .string nm] w fun e w' => (∃ q c, e = .returned (.tuple #[.slice q (rdB s nm).length c, .int .i64 (errE s nm)]) ∧ SlIn encB 1 P w q c (rdB s nm)) ∧ w' = w := by
  unfold rdB
  by_cases h0 : errE s nm = 0
  · obtain ⟨ho, hk, fl, hf⟩ := err_0 h0
    obtain ⟨i, x, hx, hn, hb, hfl⟩ := hr.at hf
    rw [if_pos h0, hf, h0, ← hfl]
    refine (rread_yes h nm (by omega) (by rw [hr.err, h0]) hx hn hb).mono ?_
    rintro e w' ⟨rfl, rfl⟩
    exact ⟨⟨x.p, x.c, rfl, h.file x (List.mem_of_getElem? hx)⟩, rfl⟩
  · rw [if_neg h0]
    refine (rread_no h nm (by omega) (by rw [hr.err]; exact h0)).mono ?_
    rintro e w' ⟨rfl, rfl⟩
    exact ⟨⟨none, 0, by rw [hr.err]; rfl, SlOf.none _, fun h => absurd h (by simp)⟩, rfl⟩
theorem dloose {B : Nat → Prop} {w : World} {g : Nat} {s : Dk} {r : Rk} {Z : Nat} (hd : DkAt B w g s) (hr : Rel s r Z) (hZ : Z ≤ 1000000000) (nm : ByteArray) :
    Calls Try.prog 9 #[.pointer (some ⟨g, 0, none⟩), .string nm] w fun e w' => e = .returned (.int .i64 ((lsN s nm : Nat) : Int)) ∧ Below w.heap.size w w' := by
  unfold lsN
  by_cases h0 : errE s nm = 0
  · obtain ⟨ho, hk, fl, hf⟩ := err_0 h0
    rw [if_pos h0, hf]
    exact loose_yes hd ho hk hf (by have := (hr.f.fit hf).2.2; omega)
  · rw [if_neg h0]
    exact loose_no hd h0
theorem rlooseU {P : Nat → Prop} {w : World} {g c : Nat} {r : Rk} {q : Option Addr} {s : Dk} {Z : Nat} (h : RIn P w g r q c) (hr : Rel s r Z) (hl : r.fs.length ≤ 1000) (hZ : Z ≤ 1000000000) (nm : ByteArray) :
    Calls Try.prog 49 #[.pointer (some ⟨g, 0, none⟩), .string nm] w fun e w' => e = .returned (.int .i64 ((lsN s nm : Nat) : Int)) ∧ Below w.heap.size w w' := by
  unfold lsN
  by_cases h0 : errE s nm = 0
  · obtain ⟨ho, hk, fl, hf⟩ := err_0 h0
    obtain ⟨i, x, hx, hn, hb, hfl⟩ := hr.at hf
    obtain ⟨o1, o2, o3⟩ := hr.f.ok x (List.mem_of_getElem? hx)
    rw [if_pos h0, hf, ← hfl]
    exact rloose_yes h nm (by omega) (by rw [hr.err, h0]) hx hn hb o2 (by omega)
  · rw [if_neg h0]
    refine (rloose_no h nm (by omega) (by rw [hr.err]; exact h0)).mono ?_
    rintro e w' ⟨rfl, rfl⟩
    exact ⟨rfl, Below.refl _ _⟩
end Go.Proofs.Ytonhagoeajhacaa

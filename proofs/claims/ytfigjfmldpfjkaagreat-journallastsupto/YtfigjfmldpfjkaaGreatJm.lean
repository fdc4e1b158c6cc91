/- The journal's two files on a disk, as told; each act on them, whatever becomes of it. -/
import Derived.Test.YtfigjfmldpfjkaaGreatFx
import Derived.Test.YtfigjfmldpfjkaaGreatBackP
namespace Go.Proofs.YtfigjfmldpfjkaaGreat
open Go.RowKit Go.Sort Go.Shelf

/-- A disk keeps off more memory: new blocks, and blocks of other types. -/
theorem DkAt.more {B B' : Nat → Prop} {w : World} {g : Nat} {s : Dk} (hd : DkAt B w g s) (hB : ∀ i, B' i → B i ∨ w.heap.size ≤ i ∨ ∃ cur t, w.heap[i]? = some (.cells cur t (0, 0)) ∧ t ≠ 51 ∧ t ≠ 118 ∧ t ≠ 5) : DkAt B' w g s := by
  obtain ⟨m, h, q, c, hi⟩ := hd
  refine ⟨m, h, q, c, ?_, ?_, hi.small, hi.box, hi.map, fun nm fl hf => ?_, hi.apart⟩
  · intro hb
    rcases hB g hb with h1 | h1 | ⟨cur, t, h1, h2, _⟩
    · exact hi.bg h1
    · have := (Array.getElem?_eq_some_iff.1 hi.box).1; omega
    · rw [hi.box] at h1; injection h1 with h1; injection h1 with _ h1; exact h2 h1.symm
  · intro hb
    rcases hB m hb with h1 | h1 | ⟨cur, t, h1, _⟩
    · exact hi.bm h1
    · have := hi.map.lt; omega
    · obtain ⟨es, cl, h9⟩ := hi.map.is_map
      rw [h9] at h1; cases h1
  · have f0 := hi.file nm fl hf
    refine ⟨⟨fun hb => ?_, fun p hp hb => ?_⟩, f0.2⟩
    · rcases hB _ hb with h1 | h1 | ⟨cur, t, h1, _, h2, _⟩
      · exact f0.1.1 h1
      · have := f0.lt; omega
      · rw [f0.2.1] at h1; injection h1 with h1; injection h1 with _ h1; exact h2 h1.symm
    · rcases hB _ hb with h1 | h1 | ⟨cur, t, h1, _, _, h2⟩
      · exact f0.1.2 p hp h1
      · have := f0.row_lt hp; omega
      · obtain ⟨cur2, hc⟩ := own_cells f0.2.2.1 hp
        rw [hc] at h1; injection h1 with h1; injection h1 with _ h1; exact h2 h1.symm
theorem names_nodup {α : Type} {f : ByteArray → Option α} {l : List ByteArray} (h : NamesOf f l) : l.Nodup := h.1.imp fun {x y} hlt e => by subst e; exact List.lt_irrefl _ hlt
theorem names_unique {α : Type} {f : ByteArray → Option α} {l l' : List ByteArray} (h : NamesOf f l) (h' : NamesOf f l') : l = l' :=
  List.Perm.eq_of_pairwise (le := fun x y : ByteArray => x.data.toList < y.data.toList) (fun _ _ _ _ h1 h2 => absurd h2 (List.lt_asymm h1)) h.1 h'.1 ((List.perm_ext_iff_of_nodup (names_nodup h) (names_nodup h')).2 fun x => (h.2 x).trans (h'.2 x).symm)
abbrev nJ : ByteArray := ⟨#[106, 111, 117, 114, 110, 97, 108]⟩
abbrev nR : ByteArray := ⟨#[102, 114, 101, 115, 104]⟩
theorem okJ : nameOk nJ = true := by decide
theorem okR : nameOk nR = true := by decide
theorem neRJ : nR ≠ nJ := by decide
theorem neJR : nJ ≠ nR := by decide
theorem RJ_lt : nR.data.toList < nJ.data.toList := by decide
/-- The disk of a journal: its file, the fresh one, the power. -/
structure JS where
  j : Option Fl
  f : Option Fl
  acts : Nat
  off : Bool
  named : Nat
  part : Int
def JS.get (s : JS) : ByteArray → Option Fl := fun k => if k = nJ then s.j else if k = nR then s.f else none
theorem JS.get_J (s : JS) : s.get nJ = s.j := if_pos rfl
theorem JS.get_R (s : JS) : s.get nR = s.f := (if_neg neRJ).trans (if_pos rfl)
theorem JS.get_no (s : JS) {k : ByteArray} (h1 : k ≠ nJ) (h2 : k ≠ nR) : s.get k = none := (if_neg h1).trans (if_neg h2)
def JS.dk (s : JS) (n : Nat) : Dk := ⟨s.get, n, s.acts, s.off, s.named, s.part⟩
theorem JS.ext_get {s : JS} {f : ByteArray → Option Fl} (h1 : f nJ = s.j) (h2 : f nR = s.f) (h3 : ∀ k, k ≠ nJ → k ≠ nR → f k = none) : f = s.get := by
  funext k
  by_cases e : k = nJ
  · subst e; rw [h1, JS.get_J]
  · by_cases e2 : k = nR
    · subst e2; rw [h2, JS.get_R]
    · rw [h3 k e e2, JS.get_no _ e e2]
theorem upd_J (s : JS) (o : Option Fl) : upd s.get nJ o = ({ s with j := o } : JS).get :=
  JS.ext_get (upd_same _ _ _) ((upd_ne _ _ neRJ).trans s.get_R) fun _ h1 h2 => (upd_ne _ _ h1).trans (s.get_no h1 h2)
theorem upd_R (s : JS) (o : Option Fl) : upd s.get nR o = ({ s with f := o } : JS).get :=
  JS.ext_get ((upd_ne _ _ neJR).trans s.get_J) (upd_same _ _ _) fun _ h1 h2 => (upd_ne _ _ h2).trans (s.get_no h1 h2)
def szO : Option Fl → Nat
  | none => 0
  | some fl => fl.bytes.length
def grown (o : Option Fl) (data : List UInt8) : Fl := match o with
  | none => ⟨data, 0⟩
  | some fl => ⟨fl.bytes ++ data, fl.lasts⟩
theorem grown_len (o : Option Fl) (data : List UInt8) : (grown o data).bytes.length = szO o + data.length := by
  cases o with
  | none => simp [grown, szO]
  | some fl => simp [grown, szO]
def JS.act (s : JS) : JS := { s with named := s.named - 1, acts := s.acts + 1 }
def JS.down (s : JS) : JS := { s with off := true }
def JAt (B : Nat → Prop) (w : World) (g : Nat) (s : JS) : Prop := ∃ n, n ≤ s.acts + 2 + s.off.toNat ∧ DkAt B w g (s.dk n)
theorem JAt.below {B : Nat → Prop} {w w' : World} {g : Nat} {s : JS} (h : JAt B w g s) (hb : Below w.heap.size w w') : JAt B w' g s := by
  obtain ⟨n, hn, hd⟩ := h; exact ⟨n, hn, hd.below hb⟩
theorem JAt.more {B B' : Nat → Prop} {w : World} {g : Nat} {s : JS} (hd : JAt B w g s) (hB : ∀ i, B' i → B i ∨ w.heap.size ≤ i ∨ ∃ cur t, w.heap[i]? = some (.cells cur t (0, 0)) ∧ t ≠ 51 ∧ t ≠ 118 ∧ t ≠ 5) : JAt B' w g s := by
  obtain ⟨n, hn, hd⟩ := hd; exact ⟨n, hn, hd.more hB⟩
theorem off_nat {b : Bool} (h : b = false) : b.toNat = 0 := by rw [h]; rfl

theorem growS_J (s : JS) (n : Nat) (data : List UInt8) : ∃ n', n' ≤ n + 1 ∧ growS (s.dk n) nJ data = ({ s with j := some (grown s.j data) } : JS).dk n' := by
  have hg : (s.dk n).get nJ = s.j := s.get_J
  have hu : ∀ o, upd (s.dk n).get nJ o = ({ s with j := o } : JS).get := fun o => upd_J s o
  cases h : s.j with
  | none =>
    refine ⟨n + 1, Nat.le_refl _, ?_⟩
    rw [grow_none (hg.trans h), hu]
    rfl
  | some fl =>
    refine ⟨n, Nat.le_succ _, ?_⟩
    rw [grow_some (hg.trans h), hu]
    rfl
def appJ (s : JS) (data : List UInt8) : Int × JS := if s.off = true then (40, s) else if s.named = 1 then (40, { s.down with j := some (grown s.j (data.take (max s.part 0).toNat)) }) else (0, { s.act with j := some (grown s.j data) })
theorem appJ_off {s : JS} (h : s.off = true) (data : List UInt8) : appJ s data = (40, s) := if_pos h
theorem appJ_down {s : JS} (h : s.off = false) (h1 : s.named = 1) (data : List UInt8) : appJ s data = (40, { s.down with j := some (grown s.j (data.take (max s.part 0).toNat)) }) := (if_neg (by rw [h]; decide)).trans (if_pos h1)
theorem appJ_yes {s : JS} (h : s.off = false) (h1 : s.named ≠ 1) (data : List UInt8) : appJ s data = (0, { s.act with j := some (grown s.j data) }) := (if_neg (by rw [h]; decide)).trans (if_neg h1)
theorem appJ_any {B : Nat → Prop} {w : World} {g : Nat} {s : JS} (hd : JAt B w g s) (hB : Sub B w) (ha : s.acts ≤ 100000000) (p : Option Addr) (k : Nat) (data : List UInt8) (hdt : SlOf encB 1 w p k data) (hl : szO s.j + data.length ≤ 140737488355328) :
    Calls Tryz.prog 29 #[.pointer (some ⟨g, 0, none⟩), .string nJ, .slice p data.length k] w fun e w' => e = .returned (.int .i64 (appJ s data).1) ∧ JAt B w' g (appJ s data).2 ∧ Kpt B w w' := by
  obtain ⟨n, hn, hd⟩ := hd
  have hsz : ∀ fl, (s.dk n).get nJ = some fl → fl.bytes.length + data.length ≤ 140737488355328 := by
    intro fl hf
    have h9 : s.j = some fl := s.get_J.symm.trans hf
    rw [h9] at hl; exact hl
  cases ho : s.off with
  | true =>
    rw [appJ_off ho]
    have he : ckE (s.dk n).off [nJ] = 40 := by show ckE s.off [nJ] = 40; rw [ho]; rfl
    refine (append_no hd (nm := nJ) (by rw [he]; decide) p k data.length).mono ?_
    rintro e w' ⟨rfl, hb⟩
    exact ⟨by rw [he], ⟨n, hn, hd.below hb⟩, Kpt.of hb⟩
  | false =>
    have hn0 := off_nat ho
    by_cases h1 : s.named = 1
    · rw [appJ_down ho h1]
      refine (append_down hd hB ho okJ h1 (by show n < maxLen; unfold maxLen; omega) p k data hdt hsz (by omega)).mono ?_
      rintro e w' ⟨rfl, hd', hb⟩
      obtain ⟨n', hn', e'⟩ := growS_J s.down n (data.take (max s.part 0).toNat)
      refine ⟨rfl, ⟨n', ?_, ?_⟩, hb⟩
      · show n' ≤ s.acts + 2 + 1; omega
      · have h9 : DkAt B w' g (growS (s.down.dk n) nJ (data.take (max s.part 0).toNat)) := hd'
        rw [e'] at h9; exact h9
    · rw [appJ_yes ho h1]
      refine (append_yes hd hB ho okJ h1 (by show s.acts ≤ _; omega) (by show n < maxLen; unfold maxLen; omega) p k data hdt hsz (by omega)).mono ?_
      rintro e w' ⟨rfl, hd', hb⟩
      obtain ⟨n', hn', e'⟩ := growS_J s.act n data
      refine ⟨rfl, ⟨n', ?_, ?_⟩, hb⟩
      · show n' ≤ s.acts + 1 + 2 + s.off.toNat; omega
      · have h9 : DkAt B w' g (growS (s.act.dk n) nJ data) := hd'
        rw [e'] at h9; exact h9
def synJ (s : JS) : Int × JS := if s.off = true then (40, s) else match s.j with
  | none => (41, s)
  | some fl => if s.named = 1 then (40, s.down) else (0, { s.act with j := some (lastF fl) })
theorem synJ_off {s : JS} (h : s.off = true) : synJ s = (40, s) := if_pos h
theorem synJ_no {s : JS} (h : s.off = false) (hf : s.j = none) : synJ s = (41, s) := by unfold synJ; rw [if_neg (by rw [h]; decide), hf]
theorem synJ_down {s : JS} {fl : Fl} (h : s.off = false) (hf : s.j = some fl) (h1 : s.named = 1) : synJ s = (40, s.down) := by unfold synJ; rw [if_neg (by rw [h]; decide), hf]; exact if_pos h1
theorem synJ_yes {s : JS} {fl : Fl} (h : s.off = false) (hf : s.j = some fl) (h1 : s.named ≠ 1) : synJ s = (0, { s.act with j := some (lastF fl) }) := by unfold synJ; rw [if_neg (by rw [h]; decide), hf]; exact if_neg h1
theorem synJ_any {B : Nat → Prop} {w : World} {g : Nat} {s : JS} (hd : JAt B w g s) (hB : Sub B w) (ha : s.acts ≤ 100000000) :
    Calls Tryz.prog 37 #[.pointer (some ⟨g, 0, none⟩), .string nJ] w fun e w' => e = .returned (.int .i64 (synJ s).1) ∧ JAt B w' g (synJ s).2 ∧ Kpt B w w' := by
  obtain ⟨n, hn, hd⟩ := hd
  have hg : (s.dk n).get nJ = s.j := s.get_J
  cases ho : s.off with
  | true =>
    rw [synJ_off ho]
    have he : errE (s.dk n) nJ = 40 := by unfold errE; rw [show (s.dk n).off = true from ho]; rfl
    refine (sync_no hd (nm := nJ) (by rw [he]; decide)).mono ?_
    rintro e w' ⟨rfl, hb⟩
    exact ⟨by rw [he], ⟨n, hn, hd.below hb⟩, Kpt.of hb⟩
  | false =>
    have hn0 := off_nat ho
    cases hf : s.j with
    | none =>
      rw [synJ_no ho hf]
      have he : errE (s.dk n) nJ = 41 := by unfold errE; rw [show (s.dk n).off = false from ho, okJ, hg, hf]; rfl
      refine (sync_no hd (nm := nJ) (by rw [he]; decide)).mono ?_
      rintro e w' ⟨rfl, hb⟩
      exact ⟨by rw [he], ⟨n, hn, hd.below hb⟩, Kpt.of hb⟩
    | some fl =>
      by_cases h1 : s.named = 1
      · rw [synJ_down ho hf h1]
        refine (sync_down hd hB ho okJ (hg.trans hf) h1).mono ?_
        rintro e w' ⟨rfl, hd', hb⟩
        exact ⟨rfl, ⟨n, by show n ≤ s.acts + 2 + 1; omega, hd'⟩, hb⟩
      · rw [synJ_yes ho hf h1]
        refine (sync_yes hd hB ho okJ (hg.trans hf) h1 (by show s.acts ≤ _; omega)).mono ?_
        rintro e w' ⟨rfl, hd', hb⟩
        refine ⟨rfl, ⟨n, by show n ≤ s.acts + 1 + 2 + s.off.toNat; omega, ?_⟩, hb⟩
        have hu : upd (s.dk n).get nJ (some (lastF fl)) = ({ s with j := some (lastF fl) } : JS).get := upd_J s _
        rw [hu] at hd'
        exact hd'

theorem growS_R (s : JS) (n : Nat) (data : List UInt8) : ∃ n', n' ≤ n + 1 ∧ growS (s.dk n) nR data = ({ s with f := some (grown s.f data) } : JS).dk n' := by
  have hg : (s.dk n).get nR = s.f := s.get_R
  have hu : ∀ o, upd (s.dk n).get nR o = ({ s with f := o } : JS).get := fun o => upd_R s o
  cases h : s.f with
  | none =>
    refine ⟨n + 1, Nat.le_refl _, ?_⟩
    rw [grow_none (hg.trans h), hu]
    rfl
  | some fl =>
    refine ⟨n, Nat.le_succ _, ?_⟩
    rw [grow_some (hg.trans h), hu]
    rfl
def appR (s : JS) (data : List UInt8) : Int × JS := if s.off = true then (40, s) else if s.named = 1 then (40, { s.down with f := some (grown s.f (data.take (max s.part 0).toNat)) }) else (0, { s.act with f := some (grown s.f data) })
theorem appR_off {s : JS} (h : s.off = true) (data : List UInt8) : appR s data = (40, s) := if_pos h
theorem appR_down {s : JS} (h : s.off = false) (h1 : s.named = 1) (data : List UInt8) : appR s data = (40, { s.down with f := some (grown s.f (data.take (max s.part 0).toNat)) }) := (if_neg (by rw [h]; decide)).trans (if_pos h1)
theorem appR_yes {s : JS} (h : s.off = false) (h1 : s.named ≠ 1) (data : List UInt8) : appR s data = (0, { s.act with f := some (grown s.f data) }) := (if_neg (by rw [h]; decide)).trans (if_neg h1)
theorem appR_any {B : Nat → Prop} {w : World} {g : Nat} {s : JS} (hd : JAt B w g s) (hB : Sub B w) (ha : s.acts ≤ 100000000) (p : Option Addr) (k : Nat) (data : List UInt8) (hdt : SlOf encB 1 w p k data) (hl : szO s.f + data.length ≤ 140737488355328) :
    Calls Tryz.prog 29 #[.pointer (some ⟨g, 0, none⟩), .string nR, .slice p data.length k] w fun e w' => e = .returned (.int .i64 (appR s data).1) ∧ JAt B w' g (appR s data).2 ∧ Kpt B w w' := by
  obtain ⟨n, hn, hd⟩ := hd
  have hsz : ∀ fl, (s.dk n).get nR = some fl → fl.bytes.length + data.length ≤ 140737488355328 := by
    intro fl hf
    have h9 : s.f = some fl := s.get_R.symm.trans hf
    rw [h9] at hl; exact hl
  cases ho : s.off with
  | true =>
    rw [appR_off ho]
    have he : ckE (s.dk n).off [nR] = 40 := by show ckE s.off [nR] = 40; rw [ho]; rfl
    refine (append_no hd (nm := nR) (by rw [he]; decide) p k data.length).mono ?_
    rintro e w' ⟨rfl, hb⟩
    exact ⟨by rw [he], ⟨n, hn, hd.below hb⟩, Kpt.of hb⟩
  | false =>
    have hn0 := off_nat ho
    by_cases h1 : s.named = 1
    · rw [appR_down ho h1]
      refine (append_down hd hB ho okR h1 (by show n < maxLen; unfold maxLen; omega) p k data hdt hsz (by omega)).mono ?_
      rintro e w' ⟨rfl, hd', hb⟩
      obtain ⟨n', hn', e'⟩ := growS_R s.down n (data.take (max s.part 0).toNat)
      refine ⟨rfl, ⟨n', ?_, ?_⟩, hb⟩
      · show n' ≤ s.acts + 2 + 1; omega
      · have h9 : DkAt B w' g (growS (s.down.dk n) nR (data.take (max s.part 0).toNat)) := hd'
        rw [e'] at h9; exact h9
    · rw [appR_yes ho h1]
      refine (append_yes hd hB ho okR h1 (by show s.acts ≤ _; omega) (by show n < maxLen; unfold maxLen; omega) p k data hdt hsz (by omega)).mono ?_
      rintro e w' ⟨rfl, hd', hb⟩
      obtain ⟨n', hn', e'⟩ := growS_R s.act n data
      refine ⟨rfl, ⟨n', ?_, ?_⟩, hb⟩
      · show n' ≤ s.acts + 1 + 2 + s.off.toNat; omega
      · have h9 : DkAt B w' g (growS (s.act.dk n) nR data) := hd'
        rw [e'] at h9; exact h9
def synR (s : JS) : Int × JS := if s.off = true then (40, s) else match s.f with
  | none => (41, s)
  | some fl => if s.named = 1 then (40, s.down) else (0, { s.act with f := some (lastF fl) })
theorem synR_off {s : JS} (h : s.off = true) : synR s = (40, s) := if_pos h
theorem synR_no {s : JS} (h : s.off = false) (hf : s.f = none) : synR s = (41, s) := by unfold synR; rw [if_neg (by rw [h]; decide), hf]
theorem synR_down {s : JS} {fl : Fl} (h : s.off = false) (hf : s.f = some fl) (h1 : s.named = 1) : synR s = (40, s.down) := by unfold synR; rw [if_neg (by rw [h]; decide), hf]; exact if_pos h1
theorem synR_yes {s : JS} {fl : Fl} (h : s.off = false) (hf : s.f = some fl) (h1 : s.named ≠ 1) : synR s = (0, { s.act with f := some (lastF fl) }) := by unfold synR; rw [if_neg (by rw [h]; decide), hf]; exact if_neg h1
theorem synR_any {B : Nat → Prop} {w : World} {g : Nat} {s : JS} (hd : JAt B w g s) (hB : Sub B w) (ha : s.acts ≤ 100000000) :
    Calls Tryz.prog 37 #[.pointer (some ⟨g, 0, none⟩), .string nR] w fun e w' => e = .returned (.int .i64 (synR s).1) ∧ JAt B w' g (synR s).2 ∧ Kpt B w w' := by
  obtain ⟨n, hn, hd⟩ := hd
  have hg : (s.dk n).get nR = s.f := s.get_R
  cases ho : s.off with
  | true =>
    rw [synR_off ho]
    have he : errE (s.dk n) nR = 40 := by unfold errE; rw [show (s.dk n).off = true from ho]; rfl
    refine (sync_no hd (nm := nR) (by rw [he]; decide)).mono ?_
    rintro e w' ⟨rfl, hb⟩
    exact ⟨by rw [he], ⟨n, hn, hd.below hb⟩, Kpt.of hb⟩
  | false =>
    have hn0 := off_nat ho
    cases hf : s.f with
    | none =>
      rw [synR_no ho hf]
      have he : errE (s.dk n) nR = 41 := by unfold errE; rw [show (s.dk n).off = false from ho, okR, hg, hf]; rfl
      refine (sync_no hd (nm := nR) (by rw [he]; decide)).mono ?_
      rintro e w' ⟨rfl, hb⟩
      exact ⟨by rw [he], ⟨n, hn, hd.below hb⟩, Kpt.of hb⟩
    | some fl =>
      by_cases h1 : s.named = 1
      · rw [synR_down ho hf h1]
        refine (sync_down hd hB ho okR (hg.trans hf) h1).mono ?_
        rintro e w' ⟨rfl, hd', hb⟩
        exact ⟨rfl, ⟨n, by show n ≤ s.acts + 2 + 1; omega, hd'⟩, hb⟩
      · rw [synR_yes ho hf h1]
        refine (sync_yes hd hB ho okR (hg.trans hf) h1 (by show s.acts ≤ _; omega)).mono ?_
        rintro e w' ⟨rfl, hd', hb⟩
        refine ⟨rfl, ⟨n, by show n ≤ s.acts + 1 + 2 + s.off.toNat; omega, ?_⟩, hb⟩
        have hu : upd (s.dk n).get nR (some (lastF fl)) = ({ s with f := some (lastF fl) } : JS).get := upd_R s _
        rw [hu] at hd'
        exact hd'

/-- fresh goes. -/
def remR (s : JS) : Int × JS := if s.off = true then (40, s) else match s.f with
  | none => (41, s)
  | some _ => if s.named = 1 then (40, s.down) else (0, { s.act with f := none })
theorem remR_down {s : JS} {fl : Fl} (h : s.off = false) (hf : s.f = some fl) (h1 : s.named = 1) : remR s = (40, s.down) := by unfold remR; rw [if_neg (by rw [h]; decide), hf]; exact if_pos h1
theorem remR_yes {s : JS} {fl : Fl} (h : s.off = false) (hf : s.f = some fl) (h1 : s.named ≠ 1) : remR s = (0, { s.act with f := none }) := by unfold remR; rw [if_neg (by rw [h]; decide), hf]; exact if_neg h1
theorem remR_any {B : Nat → Prop} {w : World} {g : Nat} {s : JS} (hd : JAt B w g s) (hB : Sub B w) (ha : s.acts ≤ 100000000) {fl : Fl} (ho : s.off = false) (hf : s.f = some fl) :
    Calls Tryz.prog 43 #[.pointer (some ⟨g, 0, none⟩), .string nR] w fun e w' => e = .returned (.int .i64 (remR s).1) ∧ JAt B w' g (remR s).2 ∧ Kpt B w w' := by
  obtain ⟨n, hn, hd⟩ := hd
  have hg : (s.dk n).get nR = s.f := s.get_R
  have hn0 := off_nat ho
  by_cases h1 : s.named = 1
  · rw [remR_down ho hf h1]
    refine (remove_down hd hB ho okR (hg.trans hf) h1).mono ?_
    rintro e w' ⟨rfl, hd', hb⟩
    exact ⟨rfl, ⟨n, by show n ≤ s.acts + 2 + 1; omega, hd'⟩, hb⟩
  · rw [remR_yes ho hf h1]
    refine (remove_yes hd hB ho okR (hg.trans hf) h1 (by show s.acts ≤ _; omega)).mono ?_
    rintro e w' ⟨rfl, hd', hb⟩
    refine ⟨rfl, ⟨n, by show n ≤ s.acts + 1 + 2 + s.off.toNat; omega, ?_⟩, hb⟩
    have hu : upd (s.dk n).get nR none = ({ s with f := none } : JS).get := upd_R s _
    rw [hu] at hd'
    exact hd'
/-- fresh becomes the journal. -/
def renM (s : JS) : Int × JS := if s.off = true then (40, s) else match s.f with
  | none => (41, s)
  | some fl => if s.named = 1 then (40, s.down) else (0, { s.act with f := none, j := some fl })
theorem renM_off {s : JS} (h : s.off = true) : renM s = (40, s) := if_pos h
theorem renM_no {s : JS} (h : s.off = false) (hf : s.f = none) : renM s = (41, s) := by unfold renM; rw [if_neg (by rw [h]; decide), hf]
theorem renM_down {s : JS} {fl : Fl} (h : s.off = false) (hf : s.f = some fl) (h1 : s.named = 1) : renM s = (40, s.down) := by unfold renM; rw [if_neg (by rw [h]; decide), hf]; exact if_pos h1
theorem renM_yes {s : JS} {fl : Fl} (h : s.off = false) (hf : s.f = some fl) (h1 : s.named ≠ 1) : renM s = (0, { s.act with f := none, j := some fl }) := by unfold renM; rw [if_neg (by rw [h]; decide), hf]; exact if_neg h1
theorem renM_any {B : Nat → Prop} {w : World} {g : Nat} {s : JS} (hd : JAt B w g s) (hB : Sub B w) (ha : s.acts ≤ 100000000) :
    Calls Tryz.prog 75 #[.pointer (some ⟨g, 0, none⟩), .string nR, .string nJ] w fun e w' => e = .returned (.int .i64 (renM s).1) ∧ JAt B w' g (renM s).2 ∧ Kpt B w w' := by
  obtain ⟨n, hn, hd⟩ := hd
  have hg : (s.dk n).get nR = s.f := s.get_R
  cases ho : s.off with
  | true =>
    rw [renM_off ho]
    have he : ckE (s.dk n).off [nR, nJ] = 40 := by show ckE s.off [nR, nJ] = 40; rw [ho]; rfl
    refine (rename_no1 hd (nm := nR) (to := nJ) (by rw [he]; decide)).mono ?_
    rintro e w' ⟨rfl, hb⟩
    exact ⟨by rw [he], ⟨n, hn, hd.below hb⟩, Kpt.of hb⟩
  | false =>
    have hn0 := off_nat ho
    cases hf : s.f with
    | none =>
      rw [renM_no ho hf]
      refine (rename_no2 hd (nm := nR) (to := nJ) ho okR okJ (hg.trans hf)).mono ?_
      rintro e w' ⟨rfl, hb⟩
      exact ⟨rfl, ⟨n, hn, hd.below hb⟩, Kpt.of hb⟩
    | some fl =>
      by_cases h1 : s.named = 1
      · rw [renM_down ho hf h1]
        refine (rename_down hd hB (to := nJ) ho okR okJ (hg.trans hf) h1).mono ?_
        rintro e w' ⟨rfl, hd', hb⟩
        exact ⟨rfl, ⟨n, by show n ≤ s.acts + 2 + 1; omega, hd'⟩, hb⟩
      · rw [renM_yes ho hf h1]
        refine (rename_yes hd hB (to := nJ) ho okR okJ (hg.trans hf) h1 (by show s.acts ≤ _; omega) (by show n < maxLen; unfold maxLen; omega)).mono ?_
        rintro e w' ⟨rfl, hd', hb⟩
        refine ⟨rfl, ⟨n + 1, by show n + 1 ≤ s.acts + 1 + 2 + s.off.toNat; omega, ?_⟩, hb⟩
        have hu : upd (upd (s.dk n).get nR none) nJ (some fl) = ({ s with f := none, j := some fl } : JS).get := by
          show upd (upd s.get nR none) nJ (some fl) = _
          rw [upd_R, upd_J]
        rw [hu] at hd'
        exact hd'
/-- What a crash leaves. -/
def crashM (s : JS) (cs : List Int) : JS := ⟨s.j.map fun fl => foundF fl (chAt cs (if s.f.isSome then 1 else 0)), s.f.map fun fl => foundF fl (chAt cs 0), 0, false, 0, 0⟩
theorem names_js (s : JS) : NamesOf s.get ((if s.f.isSome then [nR] else []) ++ (if s.j.isSome then [nJ] else [])) := by
  refine ⟨?_, fun x => ?_⟩
  · cases s.f <;> cases s.j <;> simp
    exact RJ_lt
  · by_cases e : x = nJ
    · subst e
      rw [JS.get_J]
      cases s.f <;> cases s.j <;> simp
    · by_cases e2 : x = nR
      · subst e2
        rw [JS.get_R]
        cases s.f <;> cases s.j <;> simp
      · rw [JS.get_no _ e e2]
        cases s.f <;> cases s.j <;> simp [e, e2]
theorem crash_js {B : Nat → Prop} {s : JS} {n : Nat} {cs : List Int} {e : Ending} {w' : World} (h : CrashR B (s.dk n) cs e w') : ∃ gf, e = .returned (.pointer (some ⟨gf, 0, none⟩)) ∧ JAt B w' gf (crashM s cs) := by
  obtain ⟨gf, ls, get', he, hn, hfg, hd⟩ := h
  have hn2 : NamesOf s.get ls := hn
  obtain rfl := names_unique hn2 (names_js s)
  have hg : get' = (crashM s cs).get := by
    have hfg' : FoundG s.get get' cs _ _ := hfg
    refine JS.ext_get ?_ ?_ ?_
    · cases hj : s.j with
      | none => 
        rw [show (crashM s cs).j = none by simp [crashM, hj]]
        refine hfg'.2 nJ ?_
        cases s.f <;> simp [hj]
      | some fl =>
        rw [show (crashM s cs).j = some (foundF fl (chAt cs (if s.f.isSome then 1 else 0))) by simp [crashM, hj]]
        cases hf : s.f with
        | none => exact hfg'.1 0 nJ fl (by simp [hf, hj]) (by simp [hf, hj]) (s.get_J.trans hj)
        | some fr => exact hfg'.1 1 nJ fl (by simp [hf, hj]) (by simp [hf, hj]) (s.get_J.trans hj)
    · cases hf : s.f with
      | none =>
        rw [show (crashM s cs).f = none by simp [crashM, hf]]
        refine hfg'.2 nR ?_
        cases s.j <;> simp [hf]
      | some fr =>
        rw [show (crashM s cs).f = some (foundF fr (chAt cs 0)) by simp [crashM, hf]]
        exact hfg'.1 0 nR fr (by simp [hf]) (by simp [hf]) (s.get_R.trans hf)
    · intro k h1 h2
      refine hfg'.2 k ?_
      cases s.f <;> cases s.j <;> simp [h1, h2]
  subst hg
  refine ⟨gf, he, _, ?_, hd⟩
  show _ ≤ 0 + 2 + 0
  cases s.f <;> cases s.j <;> simp
theorem crashJ_any {B : Nat → Prop} {w : World} {g : Nat} {s : JS} (hd : JAt B w g s) (hB : Sub B w) (ha : s.acts ≤ 100000000) (hj : szO s.j ≤ 140737488355328) (hf : szO s.f ≤ 140737488355328) (p : Option Addr) (k : Nat) (cs : List Int) (hc : SlOf encI 1 w p k cs) (hcl : cs.length ≤ 140737488355328) (hpg : 0 < cs.length → ∀ b off, p = some ⟨b, off, none⟩ → b ≠ g) :
    Calls Tryz.prog 15 #[.pointer (some ⟨g, 0, none⟩), .slice p cs.length k] w fun e w' => (∃ gf, e = .returned (.pointer (some ⟨gf, 0, none⟩)) ∧ JAt (· < w.heap.size) w' gf (crashM s cs)) ∧ JAt B w' g s.down ∧ Kpt B w w' := by
  obtain ⟨n, hn, hd⟩ := hd
  have hn1 : s.off.toNat ≤ 1 := by cases s.off <;> simp
  have hall : ∀ nm fl, (s.dk n).get nm = some fl → nm.size ≤ 32 ∧ fl.bytes.length ≤ 140737488355328 := by
    intro nm fl h
    have h9 : s.get nm = some fl := h
    by_cases e : nm = nJ
    · subst e
      rw [JS.get_J] at h9
      rw [h9] at hj
      exact ⟨by decide, hj⟩
    · by_cases e2 : nm = nR
      · subst e2
        rw [JS.get_R] at h9
        rw [h9] at hf
        exact ⟨by decide, hf⟩
      · rw [JS.get_no _ e e2] at h9; cases h9
  refine (crash_any hd hB (by show n ≤ _; omega) hall p k cs hc hcl hpg).mono ?_
  rintro e w' ⟨h1, h2, h3⟩
  exact ⟨crash_js h1, ⟨n, by show n ≤ s.acts + 2 + 1; omega, h2⟩, h3⟩
end Go.Proofs.YtfigjfmldpfjkaaGreat

/- The journal's two files on a disk, as told; each act on them, whatever becomes of it. -/
import Derived.Test.YtfigjfmldpfjkaaGreatZad
import Derived.Test.YtfigjfmldpfjkaaGreatZah
namespace Go.Proofs.YtfigjfmldpfjkaaGreat
open Go.RowKit Go.Sort Go.Shelf

/-- A disk keeps off more memory: new blocks, and blocks of other types. -/
theorem DkAt.more {B B' : Nat → Prop} {w : World} {g : Nat} {s : Dk} (hd : DkAt B w g s) (hB : ∀ i, B' i → B i ∨ w.heap.size ≤ i ∨ ∃ cur t, w.heap[i]? = some (.cells cur t (0, 0)) ∧ t ≠ 51 ∧ t ≠ 118 ∧ t ≠ 5) : DkAt B' w g s := by
  obtain ⟨m, h, q, c, hi⟩ := hd
  refine ⟨m, h, q, c, ?_, ?_, hi.small, hi.box, hi.map, fun nm fl hf => ?_, hi.apart⟩
  · intro hb
    rcases hB g hb with h1 | h1 | ⟨cur, t, h1, h2, _⟩
    · exact hi.bg h1
    · have := (Array.getElem?_eq_some_iff.1 hi.box).1; omega
    · rw [hi.box] at h1; injection h1 with h1; injection h1 with _ h1; exact h2 h1.symm
  · intro hb
    rcases hB m hb with h1 | h1 | ⟨cur, t, h1, _⟩
    · exact hi.bm h1
    · have := hi.map.lt; omega
    · obtain ⟨es, cl, h9⟩ := hi.map.is_map
      rw [h9] at h1; cases h1
  · have f0 := hi.file nm fl hf
    refine ⟨⟨fun hb => ?_, fun p hp hb => ?_⟩, f0.2⟩
    · rcases hB _ hb with h1 | h1 | ⟨cur, t, h1, _, h2, _⟩
      · exact f0.1.1 h1
      · have := f0.lt; omega
      · rw [f0.2.1] at h1; injection h1 with h1; injection h1 with _ h1; exact h2 h1.symm
    · rcases hB _ hb with h1 | h1 | ⟨cur, t, h1, _, _, h2⟩
      · exact f0.1.2 p hp h1
      · have := f0.row_lt hp; omega
      · obtain ⟨cur2, hc⟩ := own_cells f0.2.2.1 hp
        rw [hc] at h1; injection h1 with h1; injection h1 with _ h1; exact h2 h1.symm
theorem names_nodup {α : Type} {f : ByteArray → Option α} {l : List ByteArray} (h : NamesOf f l) : l.Nodup := h.1.imp fun {x y} hlt e => by subst e; exact List.lt_irrefl _ hlt
theorem names_unique {α : Type} {f : ByteArray → Option α} {l l' : List ByteArray} (h : NamesOf f l) (h' : NamesOf f l') : l = l' :=
  List.Perm.eq_of_pairwise (le := fun x y : ByteArray => x.data.toList < y.data.toList) (fun _ _ _ _ h1 h2 => absurd h2 (List.lt_asymm h1)) h.1 h'.1 ((List.perm_ext_iff_of_nodup (names_nodup h) (names_nodup h')).2 fun x => (h.2 x).trans (h'.2 x).symm)
abbrev nJ : ByteArray := ⟨#[106, 111, 117, 114, 110, 97, 108]⟩
abbrev nR : ByteArray := ⟨#[102, 114, 101, 115, 104]⟩
theorem okJ : nameOk nJ = true := by decide
theorem okR : nameOk nR = true := by decide
theorem neRJ : nR ≠ nJ := by decide
theorem neJR : nJ ≠ nR := by decide
theorem RJ_lt : nR.data.toList < nJ.data.toList := by decide
/-- The disk of a journal: its file, the fresh one, the power. -/
structure JS where
  j : Option Fl
  f : Option Fl
  acts : Nat
  off : Bool
  named : Nat
  part : Int
def JS.get (s : JS) : ByteArray → Option Fl := fun k => if k = nJ then s.j else if k = nR then s.f else none
theorem JS.get_J (s : JS) : s.get nJ = s.j := if_pos rfl
theorem JS.get_R (s : JS) : s.get nR = s.f := (if_neg neRJ).trans (if_pos rfl)
theorem JS.get_no (s : JS) {k : ByteArray} (h1 : k ≠ nJ) (h2 : k ≠ nR) : s.get k = none := (if_neg h1).trans (if_neg h2)
def JS.dk (s : JS) (n : Nat) : Dk := ⟨s.get, n, s.acts, s.off, s.named, s.part⟩
theorem JS.ext_get {s : JS} {f : ByteArray → Option Fl} (h1 : f nJ = s.j) (h2 : f nR = s.f) (h3 : ∀ k, k ≠ nJ → k ≠ nR → f k = none) : f = s.get := by
  funext k
  by_cases e : k = nJ
  · subst e; rw [h1, JS.get_J]
  · by_cases e2 : k = nR
    · subst e2; rw [h2, JS.get_R]
    · rw [h3 k e e2, JS.get_no _ e e2]
theorem upd_J (s : JS) (o : Option Fl) : upd s.get nJ o = ({ s with j := o } : JS).get :=
  JS.ext_get (upd_same _ _ _) ((upd_ne _ _ neRJ).trans s.get_R) fun _ h1 h2 => (upd_ne _ _ h1).trans (s.get_no h1 h2)
theorem upd_R (s : JS) (o : Option Fl) : upd s.get nR o = ({ s with f := o } : JS).get :=
  JS.ext_get ((upd_ne _ _ neJR).trans s.get_J) (upd_same _ _ _) fun _ h1 h2 => (upd_ne _ _ h2).trans (s.get_no h1 h2)
def szO : Option Fl → Nat
  | none => 0
  | some fl => fl.bytes.length
def grown (o : Option Fl) (data : List UInt8) : Fl := match o with
  | none => ⟨data, 0⟩
  | some fl => ⟨fl.bytes ++ data, fl.lasts⟩
theorem grown_len (o : Option Fl) (data : List UInt8) : (grown o data).bytes.length = szO o + data.length := by
  cases o with
  | none => simp [grown, szO]
  | some fl => simp [grown, szO]
def JS.act (s : JS) : JS := { s with named := s.named - 1, acts := s.acts + 1 }
def JS.down (s : JS) : JS := { s with off := true }
def JAt (B : Nat → Prop) (w : World) (g : Nat) (s : JS) : Prop := ∃ n, n ≤ s.acts + 2 + s.off.toNat ∧ DkAt B w g (s.dk n)
theorem JAt.below {B : Nat → Prop} {w w' : World} {g : Nat} {s : JS} (h : JAt B w g s) (hb : Below w.heap.size w w') : JAt B w' g s := by
  obtain ⟨n, hn, hd⟩ := h; exact ⟨n, hn, hd.below hb⟩
theorem JAt.more {B B' : Nat → Prop} {w : World} {g : Nat} {s : JS} (hd : JAt B w g s) (hB : ∀ i, B' i → B i ∨ w.heap.size ≤ i ∨ ∃ cur t, w.heap[i]? = some (.cells cur t (0, 0)) ∧ t ≠ 51 ∧ t ≠ 118 ∧ t ≠ 5) : JAt B' w g s := by
  obtain ⟨n, hn, hd⟩ := hd; exact ⟨n, hn, hd.more hB⟩
theorem off_nat {b : Bool} (h : b = false) : b.toNat = 0 := by rw [h]; rfl

theorem growS_J (s : JS) (n : Nat) (data : List UInt8) : ∃ n', n' ≤ n + 1 ∧ growS (s.dk n) nJ data = ({ s with j := some (grown s.j data) } : JS).dk n' := by
  have hg : (s.dk n).get nJ = s.j := s.get_J
  have hu : ∀ o, upd (s.dk n).get nJ o = ({ s with j := o } : JS).get := fun o => upd_J s o
  cases h : s.j with
  | none =>
    refine ⟨n + 1, Nat.le_refl _, ?_⟩
    rw [grow_none (hg.trans h), hu]
    rfl
  | some fl =>
    refine ⟨n, Nat.le_succ _, ?_⟩
    rw [grow_some (hg.trans h), hu]
    rfl
def appJ (s : JS) (data : List UInt8) : Int × JS := if s.off = true then (40, s) else if s.named = 1 then (40, { s.down with j := some (grown s.j (data.take (max s.part 0).toNat)) }) else (0, { s.act with j := some (grown s.j data) })
theorem appJ_off {s : JS} (h : s.off = true) (data : List UInt8) : appJ s data = (40, s) := if_pos h
theorem appJ_down {s : JS} (h : s.off = false) (h1 : s.named = 1) (data : List UInt8) : appJ s data = (40, { s.down with j := some (grown s.j (data.take (max s.part 0).toNat)) }) := (if_neg (by rw [h]; decide)).trans (if_pos h1)
theorem appJ_yes {s : JS} (h : s.off = false) (h1 : s.named ≠ 1) (data : List UInt8) : appJ s data = (0, { s.act with j := some (grown s.j data) }) := (if_neg (by rw [h]; decide)).trans (if_neg h1)
theorem appJ_any {B : Nat → Prop} {w : World} {g : Nat} {s : JS} (hd : JAt B w g s) (hB : Sub B w) (ha : s.acts ≤ 100000000) (p : Option Addr) (k : Nat) (data : List UInt8) (hdt : SlOf encB 1 w p k data) (hl : szO s.j + data.length ≤ 140737488355328) :
    Calls Tryz.prog 29 #[.pointer (some ⟨g, 0, none⟩), .string nJ, .slice p data.length k] w fun e w' => e = .returned (.int .i64 (appJ s data).1) ∧ JAt B w' g (appJ s data).2 ∧ Kpt B w w' := by
  obtain ⟨n, hn, hd⟩ := hd
  have hsz : ∀ fl, (s.dk n).get nJ = some fl → fl.bytes.length + data.length ≤ 140737488355328 := by
    intro fl hf
    have h9 : s.j = some fl := s.get_J.symm.trans hf
    rw [h9] at hl; exact hl
  cases ho : s.off with
  | true =>
    rw [appJ_off ho]
    have he : ckE (s.dk n).off [nJ] = 40 := by show ckE s.off [nJ] = 40; rw [ho]; rfl
    refine (append_no hd (nm := nJ) (by rw [he]; decide) p k data.length).mono ?_
    rintro e w' ⟨rfl, hb⟩
    exact ⟨by rw [he], ⟨n, hn, hd.below hb⟩, Kpt.of hb⟩
  | false =>
    have hn0 := off_nat ho
    by_cases h1 : s.named = 1
    · rw [appJ_down ho h1]
      refine (append_down hd hB ho okJ h1 (by show n < maxLen; unfold maxLen; omega) p k data hdt hsz (by omega)).mono ?_
      rintro e w' ⟨rfl, hd', hb⟩
      obtain ⟨n', hn', e'⟩ := growS_J s.down n (data.take (max s.part 0).toNat)
      refine ⟨rfl, ⟨n', ?_, ?_⟩, hb⟩
      · show n' ≤ s.acts + 2 + 1; omega
      · have h9 : DkAt B w' g (growS (s.down.dk n) nJ (data.take (max s.part 0).toNat)) := hd'
        rw [e'] at h9; exact h9
    · rw [appJ_yes ho h1]
      refine (append_yes hd hB ho okJ h1 (by show s.acts ≤ _; omega) (by show n < maxLen; unfold maxLen; omega) p k data hdt hsz (by omega)).mono ?_
      rintro e w' ⟨rfl, hd', hb⟩
      obtain ⟨n', hn', e'⟩ := growS_J s.act n data
      refine ⟨rfl, ⟨n', ?_, ?_⟩, hb⟩
      · show n' ≤ s.acts + 1 + 2 + s.off.toNat; omega
      · have h9 : DkAt B w' g (growS (s.act.dk n) nJ data) := hd'
        rw [e'] at h9; exact h9
def synJ (s : JS) : Int × JS := if s.off = true then (40, s) else match s.j with
  | none => (41, s)
  | some fl => if s.named = 1 then (40, s.down) else (0, { s.act with j := some (lastF fl) })
theorem synJ_off {s : JS} (h : s.off = true) : synJ s = (40, s) := if_pos h
theorem synJ_no {s : JS} (h : s.off = false) (hf : s.j = none) : synJ s = (41, s) := by unfold synJ; rw [if_neg (by rw [h]; decide), hf]
theorem synJ_down {s : JS} {fl : Fl} (h : s.off = false) (hf : s.j = some fl) (h1 : s.named = 1) : synJ s = (40, s.down) := by unfold synJ; rw [if_neg (by rw [h]; decide), hf]; exact if_pos h1
theorem synJ_yes {s : JS} {fl : Fl} (h : s.off = false) (hf : s.j = some fl) (h1 : s.named ≠ 1) : synJ s = (0, { s.act with j := some (lastF fl) }) := by unfold synJ; rw [if_neg (by rw [h]; decide), hf]; exact if_neg h1
theorem synJ_any {B : Nat → Prop} {w : World} {g : Nat} {s : JS} (hd : JAt B w g s) (hB : Sub B w) (ha : s.acts ≤ 100000000) :
    Calls Tryz.prog 37 #[.pointer (some ⟨g, 0, none⟩), .string nJ] w fun e w' => e = .returned (.int .i64 (synJ s).1) ∧ JAt B w' g (synJ s).2 ∧ Kpt B w w' := by
  obtain ⟨n, hn, hd⟩ := hd
  have hg : (s.dk n).get nJ = s.j := s.get_J
  cases ho : s.off with
  | true =>
    rw [synJ_off ho]
    have he : errE (s.dk n) nJ = 40 := by unfold errE; rw [show (s.dk n).off = true from ho]; rfl
    refine (sync_no hd (nm := nJ) (by rw [he]; decide)).mono ?_
    rintro e w' ⟨rfl, hb⟩
    exact ⟨by rw [he], ⟨n, hn, hd.below hb⟩, Kpt.of hb⟩
  | false =>
    have hn0 := off_nat ho
    cases hf : s.j with
    | none =>
      rw [synJ_no ho hf]
      have he : errE (s.dk n) nJ = 41 := by unfold errE; rw [show (s.dk n).off = false from ho, okJ, hg, hf]; rfl
      refine (sync_no hd (nm := nJ) (by rw [he]; decide)).mono ?_
      rintro e w' ⟨rfl, hb⟩
      exact ⟨by rw [he], ⟨n, hn, hd.below hb⟩, Kpt.of hb⟩
    | some fl =>
      by_cases h1 : s.named = 1
      · rw [synJ_down ho hf h1]
        refine (sync_down hd hB ho okJ (hg.trans hf) h1).mono ?_
        rintro e w' ⟨rfl, hd', hb⟩
        exact ⟨rfl, ⟨n, by show n ≤ s.acts + 2 + 1; omega, hd'⟩, hb⟩
      · rw [synJ_yes ho hf h1]
        refine (sync_yes hd hB ho okJ (hg.trans hf) h1 (by show s.acts ≤ _; omega)).mono ?_
        rintro e w' ⟨rfl, hd', hb⟩
        refine ⟨rfl, ⟨n, by show n ≤ s.acts + 1 + 2 + s.off.toNat; omega, ?_⟩, hb⟩
        have hu : upd (s.dk n).get nJ (some (lastF fl)) = ({ s with j := some (lastF fl) } : JS).get := upd_J s _
        rw [hu] at hd'
        exact hd'

theorem growS_R (s : JS) (n : Nat) (data : List UInt8) : ∃ n', n' ≤ n + 1 ∧ growS (s.dk n) nR data = ({ s with f := some (grown s.f data) } : JS).dk n' := by
  have hg : (s.dk n).get nR = s.f := s.get_R
  have hu : ∀ o, upd (s.dk n).get nR o = ({ s with f := o } : JS).get := fun o => upd_R s o
  cases h : s.f with
  | none =>
    refine ⟨n + 1, Nat.le_refl _, ?_⟩
    rw [grow_none (hg.trans h), hu]
    rfl
  | some fl =>
    refine ⟨n, Nat.le_succ _, ?_⟩
    rw [grow_some (hg.trans h), hu]
    rfl
def appR (s : JS) (data : List UInt8) : Int × JS := if s.off = true then (40, s) else if s.named = 1 then (40, { s.down with f := some (grown s.f (data.take (max s.part 0).toNat)) }) else (0, { s.act with f := some (grown s.f data) })
theorem appR_off {s : JS} (h : s.off = true) (data : List UInt8) : appR s data = (40, s) := if_pos h
theorem appR_down {s : JS} (h : s.off = false) (h1 : s.named = 1) (data : List UInt8) : appR s data = (40, { s.down with f := some (grown s.f (data.take (max s.part 0).toNat)) }) := (if_neg (by rw [h]; decide)).trans (if_pos h1)
theorem appR_yes {s : JS} (h : s.off = false) (h1 : s.named ≠ 1) (data : List UInt8) : appR s data = (0, { s.act with f := some (grown s.f data) }) := (if_neg (by rw [h]; decide)).trans (if_neg h1)
theorem appR_any {B : Nat → Prop} {w : World} {g : Nat} {s : JS} (hd : JAt B w g s) (hB : Sub B w) (ha : s.acts ≤ 100000000) (p : Option Addr) (k : Nat) (data : List UInt8) (hdt : SlOf encB 1 w p k data) (hl : szO s.f + data.length ≤ 140737488355328) :
    Calls Tryz.prog 29 #[.pointer (some ⟨g, 0, none⟩), .string nR, .slice p data.length k] w fun e w' => e = .returned (.int .i64 (appR s data).1) ∧ JAt B w' g (appR s data).2 ∧ Kpt B w w' := by
  obtain ⟨n, hn, hd⟩ := hd
  have hsz : ∀ fl, (s.dk n).get nR = some fl → fl.bytes.length + data.length ≤ 140737488355328 := by
    intro fl hf
    have h9 : s.f = some fl := s.get_R.symm.trans hf
    rw [h9] at hl; exact hl
  cases ho : s.off with
  | true =>
    rw [appR_off ho]
    have he : ckE (s.dk n).off [nR] = 40 := by show ckE s.off [nR] = 40; rw [ho]; rfl
    refine (append_no hd (nm := nR) (by rw [he]; decide) p k data.length).mono ?_
    rintro e w' ⟨rfl, hb⟩
    exact ⟨by rw [he], ⟨n, hn, hd.below hb⟩, Kpt.of hb⟩
  | false =>
    have hn0 := off_nat ho
    by_cases h1 : s.named = 1
    · rw [appR_down ho h1]
      refine (append_down hd hB ho okR h1 (by show n < maxLen; unfold maxLen; omega) p k data hdt hsz (by omega)).mono ?_
      rintro e w' ⟨rfl, hd', hb⟩
      obtain ⟨n', hn', e'⟩ := growS_R s.down n (data.take (max s.part 0).toNat)
      refine ⟨rfl, ⟨n', ?_, ?_⟩, hb⟩
      · show n' ≤ s.acts + 2 + 1; omega
      · have h9 : DkAt B w' g (growS (s.down.dk n) nR (data.take (max s.part 0).toNat)) := hd'
        rw [e'] at h9; exact h9
    · rw [appR_yes ho h1]
      refine (append_yes hd hB ho okR h1 (by show s.acts ≤ _; omega) (by show n < maxLen; unfold maxLen; omega) p k data hdt hsz (by omega)).mono ?_
      rintro e w' ⟨rfl, hd', hb⟩
      obtain ⟨n', hn', e'⟩ := growS_R s.act n data
      refine ⟨rfl, ⟨n', ?_, ?_⟩, hb⟩
      · show n' ≤ s.acts + 1 + 2 + s.off.toNat; omega
      · have h9 : DkAt B w' g (growS (s.act.dk n) nR data) := hd'
        rw [e'] at h9; exact h9
def synR (s : JS) : Int × JS := if s.off = true then (40, s) else match s.f with
  | none => (41, s)
  | some fl => if s.named = 1 then (40, s.down) else (0, { s.act with f := some (lastF fl) })
theorem synR_off {s : JS} (h : s.off = true) : synR s = (40, s) := if_pos h
theorem synR_no {s : JS} (h : s.off = false) (hf : s.f = none) : synR s = (41, s) := by unfold synR; rw [if_neg (by rw [h]; decide), hf]
theorem synR_down {s : JS} {fl : Fl} (h : s.off = false) (hf : s.f = some fl) (h1 : s.named = 1) : synR s = (40, s.down) := by unfold synR; rw [if_neg (by rw [h]; decide), hf]; exact if_pos h1
theorem synR_yes {s : JS} {fl : Fl} (h : s.off = false) (hf : s.f = some fl) (h1 : s.named ≠ 1) : synR s = (0, { s.act with f := some (lastF fl) }) := by unfold synR; rw [if_neg (by rw [h]; decide), hf]; exact if_neg h1
theorem synR_any {B : Nat → Prop} {w : World} {g : Nat} {s : JS} (hd : JAt B w g s) (hB : Sub B w) (ha : s.acts ≤ 100000000) :
    Calls Tryz.prog 37 #[.pointer (some ⟨g, 0, none⟩), .string nR] w fun e w' => e = .returned (.int .i64 (synR s).1) ∧ JAt B w' g (synR s).2 ∧ Kpt B w w' := by
  obtain ⟨n, hn, hd⟩ := hd
  have hg : (s.dk n).get nR = s.f := s.get_R
  cases ho : s.off with
  | true =>
    rw [synR_off ho]
    have he : errE (s.dk n) nR = 40 := by unfold errE; rw [show (s.dk n).off = true from ho]; rfl
    refine (sync_no hd (nm := nR) (by rw [he]; decide)).mono ?_
    rintro e w' ⟨rfl, hb⟩
    exact ⟨by rw [he], ⟨n, hn, hd.below hb⟩, Kpt.of hb⟩
  | false =>
    have hn0 := off_nat ho
    cases hf : s.f with
    | none =>
      rw [synR_no ho hf]
      have he : errE (s.dk n) nR = 41 := by unfold errE; rw [show (s.dk n).off = false from ho, okR, hg, hf]; rfl
      refine (sync_no hd (nm := nR) (by rw [he]; decide)).mono ?_
      rintro e w' ⟨rfl, hb⟩
      exact ⟨by rw [he], ⟨n, hn, hd.below hb⟩, Kpt.of hb⟩
    | some fl =>
      by_cases h1 : s.named = 1
      · rw [synR_down ho hf h1]
        refine (sync_down hd hB ho okR (hg.trans hf) h1).mono ?_
        rintro e w' ⟨rfl, hd', hb⟩
        exact ⟨rfl, ⟨n, by show n ≤ s.acts + 2 + 1; omega, hd'⟩, hb⟩
      · rw [synR_yes ho hf h1]
        refine (sync_yes hd hB ho okR (hg.trans hf) h1 (by show s.acts ≤ _; omega)).mono ?_
        rintro e w' ⟨rfl, hd', hb⟩
        refine ⟨rfl, ⟨n, by show n ≤ s.acts + 1 + 2 + s.off.toNat; omega, ?_⟩, hb⟩
        have hu : upd (s.dk n).get nR (some (lastF fl)) = ({ s with f := some (lastF fl) } : JS).get := upd_R s _
        rw [hu] at hd'
        exact hd'

/-- fresh goes. -/
def remR (s : JS) : Int × JS := if s.off = true then (40, s) else match s.f with
  | none => (41, s)
  | some _ => if s.named = 1 then (40, s.down) else (0, { s.act with f := none })
theorem remR_down {s : JS} {fl : Fl} (h : s.off = false) (hf : s.f = some fl) (h1 : s.named = 1) : remR s = (40, s.down) := by unfold remR; rw [if_neg (by rw [h]; decide), hf]; exact if_pos h1
theorem remR_yes {s : JS} {fl : Fl} (h : s.off = false) (hf : s.f = some fl) (h1 : s.named ≠ 1) : remR s = (0, { s.act with f := none }) := by unfold remR; rw [if_neg (by rw [h]; decide), hf]; exact if_neg h1
theorem remR_any {B : Nat → Prop} {w : World} {g : Nat} {s : JS} (hd : JAt B w g s) (hB : Sub B w) (ha : s.acts ≤ 100000000) {fl : Fl} (ho : s.off = false) (hf : s.f = some fl) :
    Calls Tryz.prog 43 #[.pointer (some ⟨g, 0, none⟩), .string nR] w fun e w' => e = .returned (.int .i64 (remR s).1) ∧ JAt B w' g (remR s).2 ∧ Kpt B w w' := by
  obtain ⟨n, hn, hd⟩ := hd
  have hg : (s.dk n).get nR = s.f := s.get_R
  have hn0 := off_nat ho
  by_cases h1 : s.named = 1
  · rw [remR_down ho hf h1]
    refine (remove_down hd hB ho okR (hg.trans hf) h1).mono ?_
    rintro e w' ⟨rfl, hd', hb⟩
    exact ⟨rfl, ⟨n, by show n ≤ s.acts + 2 + 1; omega, hd'⟩, hb⟩
  · rw [remR_yes ho hf h1]
    refine (remove_yes hd hB ho okR (hg.trans hf) h1 (by show s.acts ≤ _; omega)).mono ?_
    rintro e w' ⟨rfl, hd', hb⟩
    refine ⟨rfl, ⟨n, by show n ≤ s.acts + 1 + 2 + s.off.toNat; omega, ?_⟩, hb⟩
    have hu : upd (s.dk n).get nR none = ({ s with f := none } : JS).get := upd_R s _
    rw [hu] at hd'
    exact hd'
/-- fresh becomes the journal. -/
def renM (s : JS) : Int × JS := if s.off = true then (40, s) else match s.f with
  | none => (41, s)
  | some fl => if s.named = 1 then (40, s.down) else (0, { s.act with f := none, j := some fl })
theorem renM_off {s : JS} (h : s.off = true) : renM s = (40, s) := if_pos h
theorem renM_no {s : JS} (h : s.off = false) (hf : s.f = none) : renM s = (41, s) := by unfold renM; rw [if_neg (by rw [h]; decide), hf]
theorem renM_down {s : JS} {fl : Fl} (h : s.off = false) (hf : s.f = some fl) (h1 : s.named = 1) : renM s = (40, s.down) := by unfold renM; rw [if_neg (by rw [h]; decide), hf]; exact if_pos h1
theorem renM_yes {s : JS} {fl : Fl} (h : s.off = false) (hf : s.f = some fl) (h1 : s.named ≠ 1) : renM s = (0, { s.act with f := none, j := some fl }) := by unfold renM; rw [if_neg (by rw [h]; decide), hf]; exact if_neg h1
theorem renM_any {B : Nat → Prop} {w : World} {g : Nat} {s : JS} (hd : JAt B w g s) (hB : Sub B w) (ha : s.acts ≤ 100000000) :
    Calls Tryz.prog 75 #[.pointer (some ⟨g, 0, none⟩), .string nR, .string nJ] w fun e w' => e = .returned (.int .i64 (renM s).1) ∧ JAt B w' g (renM s).2 ∧ Kpt B w w' := by
  obtain ⟨n, hn, hd⟩ := hd
  have hg : (s.dk n).get nR = s.f := s.get_R
  cases ho : s.off with
  | true =>
    rw [renM_off ho]
    have he : ckE (s.dk n).off [nR, nJ] = 40 := by show ckE s.off [nR, nJ] = 40; rw [ho]; rfl
    refine (rename_no1 hd (nm := nR) (to := nJ) (by rw [he]; decide)).mono ?_
    rintro e w' ⟨rfl, hb⟩
    exact ⟨by rw [he], ⟨n, hn, hd.below hb⟩, Kpt.of hb⟩
  | false =>
    have hn0 := off_nat ho
    cases hf : s.f with
    | none =>
      rw [renM_no ho hf]
      refine (rename_no2 hd (nm := nR) (to := nJ) ho okR okJ (hg.trans hf)).mono ?_
      rintro e w' ⟨rfl, hb⟩
      exact ⟨rfl, ⟨n, hn, hd.below hb⟩, Kpt.of hb⟩
    | some fl =>
      by_cases h1 : s.named = 1
      · rw [renM_down ho hf h1]
        refine (rename_down hd hB (to := nJ) ho okR okJ (hg.trans hf) h1).mono ?_
        rintro e w' ⟨rfl, hd', hb⟩
        exact ⟨rfl, ⟨n, by show n ≤ s.acts + 2 + 1; omega, hd'⟩, hb⟩
      · rw [renM_yes ho hf h1]
        refine (rename_yes hd hB (to := nJ) ho okR okJ (hg.trans hf) h1 (by show s.acts ≤ _; omega) (by show n < maxLen; unfold maxLen; omega)).mono ?_
        rintro e w' ⟨rfl, hd', hb⟩
        refine ⟨rfl, ⟨n + 1, by show n + 1 ≤ s.acts + 1 + 2 + s.off.toNat; omega, ?_⟩, hb⟩
        have hu : upd (upd (s.dk n).get nR none) nJ (some fl) = ({ s with f := none, j := some fl } : JS).get := by
          show upd (upd s.get nR none) nJ (some fl) = _
          rw [upd_R, upd_J]
        rw [hu] at hd'
        exact hd'
/-- What a crash leaves. -/
def crashM (s : JS) (cs : List Int) : JS := ⟨s.j.map fun fl => foundF fl (chAt cs (if s.f.isSome then 1 else 0)), s.f.map fun fl => foundF fl (chAt cs 0), 0, false, 0, 0⟩
theorem names_js (s : JS) : NamesOf s.get ((if s.f.isSome then [nR] else []) ++ (if s.j.isSome then [nJ] else [])) := by
  refine ⟨?_, fun x => ?_⟩
  · cases s.f <;> cases s.j <;> simp
    exact RJ_lt
  · by_cases e : x = nJ
    · subst e
      rw [JS.get_J]
      cases s.f <;> cases s.j <;> simp
    · by_cases e2 : x = nR
      · subst e2
        rw [JS.get_R]
        cases s.f <;> cases s.j <;> simp
      · rw [JS.get_no _ e e2]
        cases s.f <;> cases s.j <;> simp [e, e2]
theorem crash_js {B : Nat → Prop} {s : JS} {n : Nat} {cs : List Int} {e : Ending} {w' : World} (h : CrashR B (s.dk n) cs e w') : ∃ gf, e = .returned (.pointer (some ⟨gf, 0, none⟩)) ∧ JAt B w' gf (crashM s cs) := by
  obtain ⟨gf, ls, get', he, hn, hfg, hd⟩ := h
  have hn2 : NamesOf s.get ls := hn
  obtain rfl := names_unique hn2 (names_js s)
  have hg : get' = (crashM s cs).get := by
    have hfg' : FoundG s.get get' cs _ _ := hfg
    refine JS.ext_get ?_ ?_ ?_
    · cases hj : s.j with
      | none => 
        rw [show (crashM s cs).j = none by simp [crashM, hj]]
        refine hfg'.2 nJ ?_
        cases s.f <;> simp [hj]
      | some fl =>
        rw [show (crashM s cs).j = some (foundF fl (chAt cs (if s.f.isSome then 1 else 0))) by simp [crashM, hj]]
        cases hf : s.f with
        | none => exact hfg'.1 0 nJ fl (by simp [hf, hj]) (by simp [hf, hj]) (s.get_J.trans hj)
        | some fr => exact hfg'.1 1 nJ fl (by simp [hf, hj]) (by simp [hf, hj]) (s.get_J.trans hj)
    · cases hf : s.f with
      | none =>
        rw [show (crashM s cs).f = none by simp [crashM, hf]]
        refine hfg'.2 nR ?_
        cases s.j <;> simp [hf]
      | some fr =>
        rw [show (crashM s cs).f = some (foundF fr (chAt cs 0)) by simp [crashM, hf]]
        exact hfg'.1 0 nR fr (by simp [hf]) (by simp [hf]) (s.get_R.trans hf)
    · intro k h1 h2
      refine hfg'.2 k ?_
      cases s.f <;> cases s.j <;> simp [h1, h2]
  subst hg
  refine ⟨gf, he, _, ?_, hd⟩
  show _ ≤ 0 + 2 + 0
  cases s.f <;> cases s.j <;> simp
theorem crashJ_any {B : Nat → Prop} {w : World} {g : Nat} {s : JS} (hd : JAt B w g s) (hB : Sub B w) (ha : s.acts ≤ 100000000) (hj : szO s.j ≤ 140737488355328) (hf : szO s.f ≤ 140737488355328) (p : Option Addr) (k : Nat) (cs : List Int) (hc : SlOf encI 1 w p k cs) (hcl : cs.length ≤ 140737488355328) (hpg : 0 < cs.length → ∀ b off, p = some ⟨b, off, none⟩ → b ≠ g) :
    Calls Tryz.prog 15 #[.pointer (some ⟨g, 0, none⟩), .slice p cs.length k] w fun e w' => (∃ gf, e = .returned (.pointer (some ⟨gf, 0, none⟩)) ∧ JAt (· < w.heap.size) w' gf (crashM s cs)) ∧ JAt B w' g s.down ∧ Kpt B w w' := by
  obtain ⟨n, hn, hd⟩ := hd
  have hn1 : s.off.toNat ≤ 1 := by cases s.off <;> simp
  have hall : ∀ nm fl, (s.dk n).get nm = some fl → nm.size ≤ 32 ∧ fl.bytes.length ≤ 140737488355328 := by
    intro nm fl h
    have h9 : s.get nm = some fl := h
    by_cases e : nm = nJ
    · subst e
      rw [JS.get_J] at h9
      rw [h9] at hj
      exact ⟨by decide, hj⟩
    · by_cases e2 : nm = nR
      · subst e2
        rw [JS.get_R] at h9
        rw [h9] at hf
        exact ⟨by decide, hf⟩
      · rw [JS.get_no _ e e2] at h9; cases h9
  refine (crash_any hd hB (by show n ≤ _; omega) hall p k cs hc hcl hpg).mono ?_
  rintro e w' ⟨h1, h2, h3⟩
  exact ⟨crash_js h1, ⟨n, by show n ≤ s.acts + 2 + 1; omega, h2⟩, h3⟩
end Go.Proofs.YtfigjfmldpfjkaaGreat
namespace Go.Proofs.YtfigjfmldpfjkaaGreat
open Go.RowKit Go.Sort Go.Shelf

structure RelF (G : ByteArray → Option Fl) (fs : List Rf) (Z : Nat) : Prop where
  get : ∀ nm fl, G nm = some fl ↔ ∃ x ∈ fs, x.nm = nm ∧ flOf x = fl
  srt : Srt fs
  ok : ∀ x ∈ fs, nameOk x.nm = true ∧ x.la ≤ x.bs.length ∧ x.bs.length ≤ Z
structure Rel (s : Dk) (r : Rk) (Z : Nat) : Prop where
  f : RelF s.get r.fs Z
  acts : r.acts = s.acts
  off : r.off = s.off
  pw : s.off = false → r.named = s.named ∧ r.part = s.part
theorem RelF.mono {G : ByteArray → Option Fl} {fs : List Rf} {Z Z' : Nat} (h : RelF G fs Z) (hz : Z ≤ Z') : RelF G fs Z' := ⟨h.get, h.srt, fun x hx => ⟨(h.ok x hx).1, (h.ok x hx).2.1, Nat.le_trans (h.ok x hx).2.2 hz⟩⟩
theorem Rel.mono {s : Dk} {r : Rk} {Z Z' : Nat} (h : Rel s r Z) (hz : Z ≤ Z') : Rel s r Z' := ⟨h.f.mono hz, h.acts, h.off, h.pw⟩
theorem RelF.has {G : ByteArray → Option Fl} {fs : List Rf} {Z : Nat} (h : RelF G fs Z) (nm : ByteArray) : hasN fs nm = (G nm).isSome := by
  cases hg : G nm with
  | some fl =>
    obtain ⟨x, hx, hn, _⟩ := (h.get nm fl).1 hg
    unfold hasN
    simp only [Option.isSome_some, List.any_eq_true]
    exact ⟨x, hx, by simpa using hn⟩
  | none =>
    unfold hasN
    simp only [Option.isSome_none, List.any_eq_false]
    intro x hx e
    have := (h.get nm (flOf x)).2 ⟨x, hx, by simpa using e, rfl⟩
    rw [hg] at this; cases this
theorem RelF.fit {G : ByteArray → Option Fl} {fs : List Rf} {Z : Nat} (h : RelF G fs Z) {nm : ByteArray} {fl : Fl} (hf : G nm = some fl) : nameOk nm = true ∧ fl.lasts ≤ fl.bytes.length ∧ fl.bytes.length ≤ Z := by
  obtain ⟨x, hx, rfl, rfl⟩ := (h.get nm fl).1 hf
  exact h.ok x hx
theorem Rel.err {s : Dk} {r : Rk} {Z : Nat} (h : Rel s r Z) (nm : ByteArray) : refE r nm nm true = errE s nm := by
  unfold refE errE
  rw [h.off, h.f.has nm, Bool.and_self]
  cases s.off <;> cases nameOk nm <;> cases (s.get nm).isSome <;> rfl
theorem Rel.ck {s : Dk} {r : Rk} {Z : Nat} (h : Rel s r Z) (nm : ByteArray) : refE r nm nm false = ckE s.off [nm] := by
  rw [ck_one]
  unfold refE
  rw [h.off, Bool.and_self]
  cases s.off <;> cases nameOk nm <;> rfl
def errR (s : Dk) (nm to : ByteArray) : Int := if s.off then 40 else if nameOk nm && nameOk to then (if (s.get nm).isSome then 0 else 41) else 1
theorem Rel.ren {s : Dk} {r : Rk} {Z : Nat} (h : Rel s r Z) (nm to : ByteArray) : refE r nm to true = errR s nm to := by
  unfold refE errR
  rw [h.off, h.f.has nm]
  cases s.off <;> cases (nameOk nm && nameOk to) <;> cases (s.get nm).isSome <;> rfl
theorem RelF.put {G : ByteArray → Option Fl} {fs : List Rf} {Z : Nat} (h : RelF G fs Z) (f : Rf) (hf : nameOk f.nm = true ∧ f.la ≤ f.bs.length ∧ f.bs.length ≤ Z) : RelF (upd G f.nm (some (flOf f))) (putR fs f) Z := by
  refine ⟨fun nm fl => ?_, srt_put h.srt f, fun x hx => ?_⟩
  · by_cases e : nm = f.nm
    · subst e
      rw [upd_same]
      constructor
      · intro hq; injection hq with hq; exact ⟨f, mem_put.2 (Or.inl rfl), rfl, hq⟩
      · rintro ⟨x, hx, hn, rfl⟩
        rcases mem_put.1 hx with rfl | ⟨_, h2⟩
        · rfl
        · exact absurd hn h2
    · rw [upd_ne _ _ e, h.get]
      constructor
      · rintro ⟨x, hx, rfl, h2⟩; exact ⟨x, mem_put.2 (Or.inr ⟨hx, e⟩), rfl, h2⟩
      · rintro ⟨x, hx, rfl, h2⟩
        rcases mem_put.1 hx with rfl | ⟨h3, _⟩
        · exact absurd rfl e
        · exact ⟨x, h3, rfl, h2⟩
  · rcases mem_put.1 hx with rfl | ⟨h3, _⟩
    · exact hf
    · exact h.ok x h3
theorem RelF.drop {G : ByteArray → Option Fl} {fs : List Rf} {Z : Nat} (h : RelF G fs Z) (nm : ByteArray) : RelF (upd G nm none) (dropR fs nm) Z := by
  refine ⟨fun k fl => ?_, srt_drop h.srt nm, fun x hx => h.ok x (mem_drop.1 hx).1⟩
  by_cases e : k = nm
  · subst e
    rw [upd_same]
    constructor
    · intro hq; cases hq
    · rintro ⟨x, hx, hn, _⟩; exact absurd hn (mem_drop.1 hx).2
  · rw [upd_ne _ _ e, h.get]
    constructor
    · rintro ⟨x, hx, rfl, h2⟩; exact ⟨x, mem_drop.2 ⟨hx, e⟩, rfl, h2⟩
    · rintro ⟨x, hx, rfl, h2⟩; exact ⟨x, (mem_drop.1 hx).1, rfl, h2⟩
theorem RelF.names {G : ByteArray → Option Fl} {fs : List Rf} {Z : Nat} (h : RelF G fs Z) : NamesOf G (fs.map Rf.nm) := by
  refine ⟨?_, fun nm => ?_⟩
  · rw [List.pairwise_map]; exact h.srt
  · rw [List.mem_map, Option.isSome_iff_exists]
    constructor
    · rintro ⟨x, hx, rfl⟩; exact ⟨flOf x, (h.get _ _).2 ⟨x, hx, rfl, rfl⟩⟩
    · rintro ⟨fl, hf⟩
      obtain ⟨x, hx, hn, _⟩ := (h.get nm fl).1 hf
      exact ⟨x, hx, hn⟩
theorem RelF.crash {G G' : ByteArray → Option Fl} {fs L : List Rf} {Z : Nat} {cs : List Int} {l : List ByteArray} (h : RelF G fs Z) (hn : NamesOf G l) (hf : FoundG G G' cs l l.length) (hc : CrF fs cs L fs.length) : RelF G' L Z := by
  have hl : l = fs.map Rf.nm := names_unique hn h.names
  have hpair : ∀ (j : Nat) (y : Rf), L[j]? = some y → ∃ x, fs[j]? = some x ∧ y.nm = x.nm ∧ flOf y = foundF (flOf x) (chAt cs j) := fun j y hy => by
    have hlt := (List.getElem?_eq_some_iff.1 hy).1
    obtain ⟨x, hx, _⟩ := get_at (l := fs) (k := j) (by rw [← hc.1]; exact hlt)
    exact ⟨x, hx, hc.2 j x y hx hy⟩
  have hnm : L.map Rf.nm = fs.map Rf.nm := by
    apply List.ext_getElem?
    intro j
    rw [List.getElem?_map, List.getElem?_map]
    cases hy : L[j]? with
    | some y => obtain ⟨x, hx, h1, _⟩ := hpair j y hy; rw [hx]; simp [h1]
    | none =>
      have : fs[j]? = none := by rw [List.getElem?_eq_none_iff] at hy ⊢; rw [← hc.1]; exact hy
      rw [this]
  have hat : ∀ (j : Nat) (y : Rf), L[j]? = some y → G' y.nm = some (flOf y) := fun j y hy => by
    obtain ⟨x, hx, h1, h2⟩ := hpair j y hy
    have hlj : l[j]? = some y.nm := by rw [hl, List.getElem?_map, hx, h1]; rfl
    rw [h2]
    exact hf.1 j y.nm (flOf x) (List.getElem?_eq_some_iff.1 hlj).1 hlj (by rw [h1]; exact (h.get _ _).2 ⟨x, List.mem_of_getElem? hx, rfl, rfl⟩)
  refine ⟨fun nm fl => ⟨fun hg => ?_, ?_⟩, ?_, fun y hy => ?_⟩
  · by_cases hm : nm ∈ l
    · rw [hl, ← hnm, List.mem_map] at hm
      obtain ⟨y, hy, rfl⟩ := hm
      obtain ⟨j, hj⟩ := List.mem_iff_getElem?.1 hy
      rw [hat j y hj] at hg
      injection hg with hg
      exact ⟨y, hy, rfl, hg⟩
    · rw [hf.2 nm (by rw [List.take_length]; exact hm)] at hg; cases hg
  · rintro ⟨y, hy, rfl, rfl⟩
    obtain ⟨j, hj⟩ := List.mem_iff_getElem?.1 hy
    exact hat j y hj
  · have h1 : (L.map Rf.nm).Pairwise ltN := by rw [hnm, List.pairwise_map]; exact h.srt
    rw [List.pairwise_map] at h1; exact h1
  · obtain ⟨j, hj⟩ := List.mem_iff_getElem?.1 hy
    obtain ⟨x, hx, h1, h2⟩ := hpair j y hj
    obtain ⟨o1, o2, o3⟩ := h.ok x (List.mem_of_getElem? hx)
    have hk := kept_le (fl := flOf x) o2 (chAt cs j)
    have e1 : y.bs = x.bs.take (keptN (flOf x) (chAt cs j)) := congrArg Fl.bytes h2
    have e2 : y.la = keptN (flOf x) (chAt cs j) := congrArg Fl.lasts h2
    have hk2 : keptN (flOf x) (chAt cs j) ≤ x.bs.length := hk
    refine ⟨by rw [h1]; exact o1, ?_, ?_⟩
    · rw [e1, e2, List.length_take]; omega
    · rw [e1, List.length_take]; omega
/-- What each call answers, and what it leaves. -/
def appE (s : Dk) (nm : ByteArray) : Int := if ckE s.off [nm] = 0 then (if s.named = 1 then 40 else 0) else ckE s.off [nm]
def appS (s : Dk) (nm : ByteArray) (data : List UInt8) : Dk := if ckE s.off [nm] = 0 then (if s.named = 1 then growS { s with off := true } nm (data.take (max s.part 0).toNat) else growS { s with named := s.named - 1, acts := s.acts + 1 } nm data) else s
def synE (s : Dk) (nm : ByteArray) : Int := if errE s nm = 0 then (if s.named = 1 then 40 else 0) else errE s nm
def synS (s : Dk) (nm : ByteArray) : Dk := if errE s nm = 0 then (if s.named = 1 then { s with off := true } else { s with get := upd s.get nm ((s.get nm).map lastF), named := s.named - 1, acts := s.acts + 1 }) else s
def remS (s : Dk) (nm : ByteArray) : Dk := if errE s nm = 0 then (if s.named = 1 then { s with off := true } else { s with get := upd s.get nm none, named := s.named - 1, acts := s.acts + 1 }) else s
def renE (s : Dk) (nm to : ByteArray) : Int := if errR s nm to = 0 then (if s.named = 1 then 40 else 0) else errR s nm to
def renS (s : Dk) (nm to : ByteArray) : Dk := if errR s nm to = 0 then (if s.named = 1 then { s with off := true } else { s with get := upd (upd s.get nm none) to (s.get nm), n := s.n + 1, named := s.named - 1, acts := s.acts + 1 }) else s
def armE (s : Dk) : Int := if s.off then 40 else 0
def armS (s : Dk) (n p : Int) : Dk := if s.off then s else { s with named := (max n 0).toNat, part := p }
theorem err_0 {s : Dk} {nm : ByteArray} (h : errE s nm = 0) : s.off = false ∧ nameOk nm = true ∧ ∃ fl, s.get nm = some fl := by
  unfold errE at h
  cases ho : s.off <;> cases hk : nameOk nm <;> cases hf : s.get nm <;> simp [ho, hk, hf] at h ⊢
theorem ck_0 {s : Dk} {nm : ByteArray} (h : ckE s.off [nm] = 0) : s.off = false ∧ nameOk nm = true := by
  rw [ck_one] at h
  cases ho : s.off <;> cases hk : nameOk nm <;> simp [ho, hk] at h ⊢
theorem errR_0 {s : Dk} {nm to : ByteArray} (h : errR s nm to = 0) : s.off = false ∧ nameOk nm = true ∧ nameOk to = true ∧ ∃ fl, s.get nm = some fl := by
  unfold errR at h
  cases ho : s.off <;> cases hk : nameOk nm <;> cases hk2 : nameOk to <;> cases hf : s.get nm <;> simp [ho, hk, hk2, hf] at h ⊢
end Go.Proofs.YtfigjfmldpfjkaaGreat
namespace Go.Proofs.YtfigjfmldpfjkaaGreat
open Go.RowKit Go.Sort Go.Shelf

theorem bne_list {a b : ByteArray} (h : a ≠ b) : (a.toList == b.toList) = false := beq_eq_false_iff_ne.2 fun e => h (ba_extR e)
set_option maxHeartbeats 1000000 in
set_option maxRecDepth 100000 in
theorem index_any (q : Option Addr) (c : Nat) (l : List ByteArray) (nm : ByteArray) (w : World) (h : SlOf encS 1 w q c l) (hl : l.length ≤ 1000000000) :
    Calls Tryz.prog 105 #[.slice q l.length c, .string nm] w fun e w' => (∃ v : Int, e = .returned (.int .i64 v) ∧ (0 ≤ v ↔ nm ∈ l)) ∧ w' = w := by
  go_enter Tryz.func105, Tryz.ntmps105
  go_wp2
  go_loopw [8] (fun i wr => ∃ k : Nat, k ≤ l.length ∧ i = .int .i64 (k : Int) ∧ Hid (nm ∉ l.take k) ∧ wr = w) (fun i _ => l.length - (intOf i).toNat)
  case atStart => exact ⟨0, Nat.zero_le _, rfl, hide (by simp), rfl⟩
  case round =>
    obtain ⟨j, hj, rfl, HA, hw⟩ := hrel
    obtain rfl := hw.symm
    by_cases hlt : j < l.length
    · obtain ⟨x, hx, _⟩ := get_at hlt
      obtain ⟨b, off, hq, hb, cx⟩ := strAt h hx
      subst hq
      have ki0 : (0 : Int) ≤ (j : Int) := by omega
      have ki1 : (j : Int) < (l.length : Int) := by omega
      have HT := hide (take_snoc_of hx)
      have HX := hide (List.mem_of_getElem? hx)
      by_cases hok : nm = x
      · subst hok
        clear h hx
        go_wp2
        go_ret
        exact ⟨⟨(j : Int), rfl, ⟨fun _ => unhide HX, fun _ => by omega⟩⟩, rfl⟩
      · have heq := bne_list hok
        have HO := hide hok
        clear h hx hok
        go_wp2
        go_roundw
        case rel => exact ⟨j + 1, by omega, by go_num, hide (by rw [unhide HT]; intro hy; rcases List.mem_append.1 hy with h | h; exact unhide HA h; exact unhide HO (by simpa using h)), trivial⟩
        case measure => simp [intOf]; omega
    · obtain rfl : j = l.length := by omega
      have ki1 : ¬ (l.length : Int) < (l.length : Int) := by omega
      clear h
      go_wp2
      go_ret
      have h9 := unhide HA
      rw [List.take_length] at h9
      exact ⟨⟨-1, rfl, ⟨fun h => by omega, fun h => absurd h h9⟩⟩, rfl⟩
theorem contains_any (q : Option Addr) (c : Nat) (l : List ByteArray) (nm : ByteArray) (w : World) (h : SlOf encS 1 w q c l) (hl : l.length ≤ 1000000000) :
    Calls Tryz.prog 81 #[.slice q l.length c, .string nm] w fun e w' => (∃ b : Bool, e = .returned (.bool b) ∧ (b = true ↔ nm ∈ l)) ∧ w' = w := by
  have hi := index_any q c l nm w h hl
  clear h
  go_enter Tryz.func81, Tryz.ntmps81
  go_wp2_with (go_at_call 105; refine hi.mono ?_; rintro e w1 ⟨⟨v, rfl, hv⟩, hw1⟩; obtain rfl := hw1.symm; have HV := hide hv; clear hv)
  go_ret
  exact ⟨⟨_, rfl, by simpa using unhide HV⟩, rfl⟩
theorem has_any {B : Nat → Prop} {w : World} {g : Nat} {s : JS} (hd : JAt B w g s) (ha : s.acts ≤ 100000000) (ho : s.off = false) (nm : ByteArray) :
    Calls Tryz.prog 42 #[.pointer (some ⟨g, 0, none⟩), .string nm] w fun e w' => e = .returned (.bool (s.get nm).isSome) ∧ Below w.heap.size w w' := by
  obtain ⟨n, hn, hd⟩ := hd
  have hn0 := off_nat ho
  have hna := names_any hd (by show n ≤ _; omega) ho
  have hco := fun (q : Option Addr) (c : Nat) (l : List ByteArray) (W : World) (h : SlOf encS 1 W q c l) (hl : l.length ≤ 1000000000) => contains_any q c l nm W h hl
  have hnn : (s.dk n).n ≤ 1000000000 := by show n ≤ _; omega
  have HNN := hide hnn
  clear hd hnn
  go_enter Tryz.func42, Tryz.ntmps42
  go_wp2_with (first
    | (go_at_call 82; refine hna.mono ?_; rintro e w1 ⟨⟨q1, c1, l, rfl, o1, n1, l1⟩, b1⟩; have O1 := hide o1; have N1 := hide n1; have L1 := hide l1; have B1 := hide b1; clear o1 n1 l1 b1)
    | (go_at_call 81; refine (hco q1 c1 l w1 (unhide O1).ls (Nat.le_trans (unhide L1) (unhide HNN))).mono ?_; rintro e w2 ⟨⟨bb, rfl, hbb⟩, hw2⟩; obtain rfl := hw2.symm; have HBB := hide hbb; clear hbb))
  go_ret
  refine ⟨ret_bool ?_, unhide B1⟩
  have h9 := (unhide HBB).trans ((unhide N1).2 nm)
  exact Bool.eq_iff_iff.2 h9
end Go.Proofs.YtfigjfmldpfjkaaGreat

/- What normal predicates, their meets and the conjunctions mean. -/
import Derived.Test.YtimklglliffpcaaGreatQCjAll
namespace Go.Proofs.YtimklglliffpcaaGreat

def told (p : Pd) (y : Pr) : Bool := toldB p.kind p.ints p.words p.lo p.hi y
theorem holdsD_eq (ev : List Pr) {p : Pd} (h : p.ok = true) : holdsD ev p = match getP p.attr ev with | none => false | some y => decide (chkV y.kind y.int y.word = 0) && told p y := by
  unfold holdsD holdsB told
  unfold Pd.ok at h
  rw [h, Bool.true_and]
  cases getP p.attr ev <;> rfl
/-- Of one attribute: what is told of every value is told of every event. -/
theorem holds_of_told (ev : List Pr) {m p : Pd} (hm : m.ok = true) (hp : p.ok = true) (ha : m.attr = p.attr) (h : ∀ y, told m y = told p y) : holdsD ev m = holdsD ev p := by
  rw [holdsD_eq ev hm, holdsD_eq ev hp, ha]
  cases getP p.attr ev with
  | none => rfl
  | some y => simp only [h]
theorem ba_list {a b : ByteArray} (h : a.toList = b.toList) : a = b := by
  rw [ByteArray.toList_eq, ByteArray.toList_eq] at h
  cases a; cases b
  simp only at h
  rw [Array.toList_inj.1 h]
theorem hasI_iff {v : Int} {l : List Int} : hasI v l = true ↔ v ∈ l := by
  unfold hasI
  rw [List.any_eq_true]
  constructor
  · rintro ⟨x, hx, e⟩
    have : v = x := by simpa using e
    rw [this]; exact hx
  · intro h
    exact ⟨v, h, by simp⟩
theorem hasS_iff {v : ByteArray} {l : List ByteArray} : hasS v l = true ↔ v ∈ l := by
  unfold hasS
  rw [List.any_eq_true]
  constructor
  · rintro ⟨x, hx, e⟩
    have : v = x := ba_list (by simpa using e)
    rw [this]; exact hx
  · intro h
    exact ⟨v, h, by simp⟩
/-- The parts of a predicate in form. -/
theorem ok_parts {p : Pd} (h : p.ok = true) : nameOk p.attr = true ∧ ((p.kind = 1 ∧ memB numOk p.ints 64 = true ∧ p.words = [] ∧ p.lo = 0 ∧ p.hi = 0) ∨ (p.kind = 2 ∧ memB wordOk p.words 64 = true ∧ p.ints = [] ∧ p.lo = 0 ∧ p.hi = 0) ∨ (p.kind = 3 ∧ numOk p.lo = true ∧ numOk p.hi = true ∧ p.ints = [] ∧ p.words = []) ∨ (p.kind = 4 ∧ memB wordOk p.words 1 = true ∧ p.ints = [] ∧ p.lo = 0 ∧ p.hi = 0)) := by
  unfold Pd.ok predB at h
  rw [Bool.and_eq_true] at h
  refine ⟨h.1, ?_⟩
  have h2 := h.2
  unfold emptyB at h2
  split at h2
  · next hk =>
    simp only [Bool.and_eq_true, decide_eq_true_eq] at h2
    exact Or.inl ⟨hk, h2.1, List.length_eq_zero_iff.1 h2.2.2.1, h2.2.2.2.1, h2.2.2.2.2⟩
  · split at h2
    · next hk =>
      simp only [Bool.and_eq_true, decide_eq_true_eq] at h2
      exact Or.inr (Or.inl ⟨hk, h2.1, List.length_eq_zero_iff.1 h2.2.1, h2.2.2.2.1, h2.2.2.2.2⟩)
    · split at h2
      · next hk =>
        simp only [Bool.and_eq_true, decide_eq_true_eq] at h2
        exact Or.inr (Or.inr (Or.inl ⟨hk, h2.1.1, h2.1.2, List.length_eq_zero_iff.1 h2.2.1, List.length_eq_zero_iff.1 h2.2.2.1⟩))
      · split at h2
        · next hk =>
          simp only [Bool.and_eq_true, decide_eq_true_eq] at h2
          exact Or.inr (Or.inr (Or.inr ⟨hk, h2.1, List.length_eq_zero_iff.1 h2.2.1, h2.2.2.2.1, h2.2.2.2.2⟩))
        · cases h2
theorem ok_1 {a : ByteArray} {l : List Int} (h1 : nameOk a = true) (h2 : memB numOk l 64 = true) : (Pd.ok ⟨1, a, l, [], 0, 0⟩) = true := by simp [Pd.ok, predB, emptyB, h1, h2]
theorem ok_2 {a : ByteArray} {l : List ByteArray} (h1 : nameOk a = true) (h2 : memB wordOk l 64 = true) : (Pd.ok ⟨2, a, [], l, 0, 0⟩) = true := by simp [Pd.ok, predB, emptyB, h1, h2]
theorem ok_3 {a : ByteArray} {lo hi : Int} (h1 : nameOk a = true) (h2 : numOk lo = true) (h3 : numOk hi = true) : (Pd.ok ⟨3, a, [], [], lo, hi⟩) = true := by simp [Pd.ok, predB, emptyB, h1, h2, h3]
theorem ok_4 {a : ByteArray} {l : List ByteArray} (h1 : nameOk a = true) (h2 : memB wordOk l 1 = true) : (Pd.ok ⟨4, a, [], l, 0, 0⟩) = true := by simp [Pd.ok, predB, emptyB, h1, h2]
theorem memB_sub {α : Type} {f : α → Bool} {l l' : List α} {m : Int} (h : memB f l m = true) (h1 : ∀ x ∈ l', x ∈ l) (h2 : l'.length ≤ l.length) (h3 : l' ≠ []) : memB f l' m = true := by
  unfold memB at *
  simp only [Bool.and_eq_true, decide_eq_true_eq, List.all_eq_true] at *
  refine ⟨fun x hx => h.1 x (h1 x hx), ?_, by omega⟩
  have := List.length_pos_iff.2 h3
  omega
theorem memB_one {α : Type} {f : α → Bool} {x : α} {m : Int} (h : f x = true) (hm : 1 ≤ m) : memB f [x] m = true := by simp [memB, h, hm]
theorem memB_ne {α : Type} {f : α → Bool} {l : List α} {m : Int} (h : memB f l m = true) : l ≠ [] := by
  unfold memB at h
  simp only [Bool.and_eq_true, decide_eq_true_eq] at h
  intro e
  rw [e] at h
  simp at h
/-- The normal predicate holds where the predicate does. -/
theorem norm_sem {p : Pd} (hp : p.ok = true) : (∀ m, normD p = some m → m.ok = true ∧ m.attr = p.attr ∧ ∀ y, told m y = told p y) ∧ (normD p = none → ∀ y, told p y = false) := by
  obtain ⟨hn, hc⟩ := ok_parts hp
  rcases hc with ⟨hk, h1, h2, h3, h4⟩ | ⟨hk, h1, h2, h3, h4⟩ | ⟨hk, h1, h2, h3, h4⟩ | ⟨hk, h1, h2, h3, h4⟩
  · rw [normD_1 hp hk]
    refine ⟨fun m hm => ?_, fun e => by cases e⟩
    cases hm
    obtain ⟨o1, _, o3⟩ := onceI_spec p.ints
    refine ⟨ok_1 hn (memB_sub h1 (fun x hx => (o1 x).1 hx) o3 (once_ne (memB_ne h1))), rfl, fun y => ?_⟩
    have e : hasI y.int (onceI p.ints) = hasI y.int p.ints := by
      rw [Bool.eq_iff_iff, hasI_iff, hasI_iff]; exact o1 _
    simp only [told, toldB, hk, if_true, e]
  · rw [normD_2 hp hk]
    refine ⟨fun m hm => ?_, fun e => by cases e⟩
    cases hm
    obtain ⟨o1, _, o3⟩ := onceS_spec p.words
    refine ⟨ok_2 hn (memB_sub h1 (fun x hx => (o1 x).1 hx) o3 (onceS_ne (memB_ne h1))), rfl, fun y => ?_⟩
    have e : hasS y.word (onceS p.words) = hasS y.word p.words := by
      rw [Bool.eq_iff_iff, hasS_iff, hasS_iff]; exact o1 _
    simp only [told, toldB, hk, if_neg (show ¬ (2 : Int) = 1 by decide), if_true, e]
  · rw [normD_3 hp hk]
    by_cases hlt : p.hi < p.lo
    · rw [if_pos hlt]
      refine ⟨(fun m hm => by cases hm), fun _ y => ?_⟩
      simp only [told, toldB, hk, if_neg (show ¬ (3 : Int) = 1 by decide), if_neg (show ¬ (3 : Int) = 2 by decide), if_true]
      by_cases ha : p.lo ≤ y.int
      · have : ¬ y.int ≤ p.hi := by omega
        simp [this]
      · simp [ha]
    · rw [if_neg hlt]
      by_cases he : p.lo = p.hi
      · rw [if_pos he]
        refine ⟨fun m hm => ?_, fun e => by cases e⟩
        cases hm
        refine ⟨ok_1 hn (memB_one h1 (by decide)), rfl, fun y => ?_⟩
        simp only [told, toldB, hk, if_neg (show ¬ (3 : Int) = 1 by decide), if_neg (show ¬ (3 : Int) = 2 by decide), if_true]
        congr 1
        rw [Bool.eq_iff_iff, hasI_iff]
        simp
        omega
      · rw [if_neg he]
        refine ⟨fun m hm => ?_, fun e => by cases e⟩
        cases hm
        refine ⟨ok_3 hn h1 h2, rfl, fun y => ?_⟩
        simp only [told, toldB, hk, if_neg (show ¬ (3 : Int) = 1 by decide), if_neg (show ¬ (3 : Int) = 2 by decide), if_true]
  · rw [normD_4 hp hk]
    refine ⟨fun m hm => ?_, fun e => by cases e⟩
    cases hm
    refine ⟨ok_4 hn h1, rfl, fun y => ?_⟩
    simp only [told, toldB, hk, if_neg (show ¬ (4 : Int) = 1 by decide), if_neg (show ¬ (4 : Int) = 2 by decide), if_neg (show ¬ (4 : Int) = 3 by decide)]
theorem hasID_told {b : Pd} (hb : b.ok = true) (x : Int) (nm w : ByteArray) : hasID b x = told b ⟨nm, 1, x, w⟩ := by
  obtain ⟨_, hc⟩ := ok_parts hb
  unfold hasID told toldB
  rcases hc with ⟨hk, h1, h2, h3, h4⟩ | ⟨hk, h1, h2, h3, h4⟩ | ⟨hk, h1, h2, h3, h4⟩ | ⟨hk, h1, h2, h3, h4⟩
  · rw [if_neg (by omega), if_pos hk]
    rw [Bool.eq_iff_iff]
    simp [hasI_iff]
  · rw [if_neg (by omega), if_neg (by omega), if_pos hk, h2]
    simp
  · rw [if_pos hk, if_neg (by omega), if_neg (by omega), if_pos hk]
    simp
  · rw [if_neg (by omega), if_neg (by omega), if_neg (by omega), if_neg (by omega), h2]
    simp
theorem hasSD_told {b : Pd} (hb : b.ok = true) (s : ByteArray) (nm : ByteArray) (x : Int) : hasSD b s = told b ⟨nm, 2, x, s⟩ := by
  obtain ⟨_, hc⟩ := ok_parts hb
  unfold hasSD told toldB fstW
  rcases hc with ⟨hk, h1, h2, h3, h4⟩ | ⟨hk, h1, h2, h3, h4⟩ | ⟨hk, h1, h2, h3, h4⟩ | ⟨hk, h1, h2, h3, h4⟩
  · rw [if_neg (by omega), if_pos hk, h2]
    simp [hasS]
  · rw [if_neg (by omega), if_neg (by omega), if_pos hk]
    simp
  · rw [if_neg (by omega), if_neg (by omega), if_neg (by omega), if_pos hk, h4]
    simp [hasS]
  · rw [if_pos hk, if_neg (by omega), if_neg (by omega), if_neg (by omega)]
    simp
theorem told_kind {b : Pd} {y y' : Pr} (h1 : y.kind = y'.kind) (h2 : y.int = y'.int) (h3 : y.word = y'.word) : told b y = told b y' := by
  unfold told toldB
  rw [h1, h2, h3]
theorem prefB_list {s p : ByteArray} : prefB s p = true ↔ p.toList <+: s.toList := by
  unfold prefB
  rw [Bool.and_eq_true, decide_eq_true_eq, beq_iff_eq, ByteArray.toList_eq, ByteArray.toList_eq, ByteArray.toList_eq]
  have hx : (s.extract 0 p.size).data.toList = s.data.toList.take p.size := by simp [ByteArray.data_extract]
  rw [hx]
  have hps : p.size = p.data.toList.length := by rw [Array.length_toList]; rfl
  have hss : s.size = s.data.toList.length := by rw [Array.length_toList]; rfl
  rw [hps, hss]
  constructor
  · rintro ⟨_, h2⟩
    rw [← h2]
    exact List.take_prefix _ _
  · intro h
    exact ⟨h.length_le, (List.prefix_iff_eq_take.1 h).symm⟩
/-- What two hold together. -/
def And2 (o : Option Pd) (a b : Pd) : Prop := (∀ m, o = some m → m.ok = true ∧ m.attr = a.attr ∧ ∀ y, told m y = (told a y && told b y)) ∧ (o = none → ∀ y, (told a y && told b y) = false)
theorem core_1 {a b : Pd} (ha : a.ok = true) (hb : b.ok = true) (hk : a.kind = 1) : And2 (coreD a b) a b := by
  obtain ⟨hn, hc⟩ := ok_parts ha
  rcases hc with ⟨_, h1, h2, h3, h4⟩ | ⟨h, _⟩ | ⟨h, _⟩ | ⟨h, _⟩
  case inr.inl => omega
  case inr.inr.inl => omega
  case inr.inr.inr => omega
  have key : ∀ y, ((y.kind == 1) && hasI y.int (a.ints.filter (hasID b))) = (told a y && told b y) := fun y => by
    have e1 : told a y = ((y.kind == 1) && hasI y.int a.ints) := by unfold told toldB; rw [if_pos hk]
    rw [e1, Bool.and_assoc]
    by_cases hy : y.kind = 1
    · congr 1
      rw [Bool.eq_iff_iff, Bool.and_eq_true, hasI_iff, hasI_iff, List.mem_filter, hasID_told hb y.int y.name y.word]
      rw [told_kind (b := b) (y := ⟨y.name, 1, y.int, y.word⟩) (y' := y) hy.symm rfl rfl]
    · have : (y.kind == 1) = false := by simp [hy]
      rw [this]; rfl
  have hco : coreD a b = mkI a.attr (a.ints.filter (hasID b)) := by unfold coreD; rw [if_pos hk]
  rw [hco]
  unfold mkI
  refine ⟨fun m hm => ?_, fun hm y => ?_⟩
  · split at hm
    · cases hm
    · next h0 =>
      cases hm
      refine ⟨ok_1 hn (memB_sub h1 (fun x hx => (List.mem_filter.1 hx).1) (List.length_filter_le _ _) (fun e => h0 (by rw [e]; rfl))), rfl, fun y => ?_⟩
      rw [← key y]
      rfl
  · split at hm
    · next h0 =>
      rw [← key y, List.length_eq_zero_iff.1 h0]
      simp [hasI]
    · cases hm
theorem core_2 {a b : Pd} (ha : a.ok = true) (hb : b.ok = true) (hk : a.kind = 2) : And2 (coreD a b) a b := by
  obtain ⟨hn, hc⟩ := ok_parts ha
  rcases hc with ⟨h, _⟩ | ⟨_, h1, h2, h3, h4⟩ | ⟨h, _⟩ | ⟨h, _⟩
  case inl => omega
  case inr.inr.inl => omega
  case inr.inr.inr => omega
  have key : ∀ y, ((y.kind == 2) && hasS y.word (a.words.filter (hasSD b))) = (told a y && told b y) := fun y => by
    have e1 : told a y = ((y.kind == 2) && hasS y.word a.words) := by unfold told toldB; rw [if_neg (by omega), if_pos hk]
    rw [e1, Bool.and_assoc]
    by_cases hy : y.kind = 2
    · congr 1
      rw [Bool.eq_iff_iff, Bool.and_eq_true, hasS_iff, hasS_iff, List.mem_filter, hasSD_told hb y.word y.name y.int]
      rw [told_kind (b := b) (y := ⟨y.name, 2, y.int, y.word⟩) (y' := y) hy.symm rfl rfl]
    · have : (y.kind == 2) = false := by simp [hy]
      rw [this]; rfl
  have hco : coreD a b = mkS a.attr (a.words.filter (hasSD b)) := by unfold coreD; rw [if_neg (by omega), if_pos hk]
  rw [hco]
  unfold mkS
  refine ⟨fun m hm => ?_, fun hm y => ?_⟩
  · split at hm
    · cases hm
    · next h0 =>
      cases hm
      refine ⟨ok_2 hn (memB_sub h1 (fun x hx => (List.mem_filter.1 hx).1) (List.length_filter_le _ _) (fun e => h0 (by rw [e]; rfl))), rfl, fun y => ?_⟩
      rw [← key y]
      rfl
  · split at hm
    · next h0 =>
      rw [← key y, List.length_eq_zero_iff.1 h0]
      simp [hasS]
    · cases hm
theorem numOk_iff {x : Int} : numOk x = true ↔ -2147483648 ≤ x ∧ x ≤ 2147483647 := by simp [numOk]
theorem told_3 {p : Pd} (hk : p.kind = 3) (y : Pr) : told p y = ((y.kind == 1) && (decide (p.lo ≤ y.int) && decide (y.int ≤ p.hi))) := by unfold told toldB; rw [if_neg (by omega), if_neg (by omega), if_pos hk]
theorem told_4 {p : Pd} (hk : p.kind = 4) (y : Pr) : told p y = ((y.kind == 2) && prefB y.word (fstW p)) := by unfold told toldB fstW; rw [if_neg (by omega), if_neg (by omega), if_neg (by omega)]
theorem core_3 {a b : Pd} (ha : a.ok = true) (hb : b.ok = true) (hk : a.kind = 3) (hkb : b.kind = 3) : And2 (coreD a b) a b := by
  obtain ⟨hn, hc⟩ := ok_parts ha
  rcases hc with ⟨h, _⟩ | ⟨h, _⟩ | ⟨_, h1, h2, h3, h4⟩ | ⟨h, _⟩
  case inl => omega
  case inr.inl => omega
  case inr.inr.inr => omega
  obtain ⟨_, hc2⟩ := ok_parts hb
  rcases hc2 with ⟨h, _⟩ | ⟨h, _⟩ | ⟨_, g1, g2, g3, g4⟩ | ⟨h, _⟩
  case inl => omega
  case inr.inl => omega
  case inr.inr.inr => omega
  rw [numOk_iff] at h1 h2 g1 g2
  have hco : coreD a b = betwD a.attr (max a.lo b.lo) (min a.hi b.hi) := by unfold coreD; rw [if_neg (by omega), if_neg (by omega), if_neg (by omega), if_pos hk]
  rw [hco]
  have key : ∀ y, (told a y && told b y) = ((y.kind == 1) && (decide (max a.lo b.lo ≤ y.int) && decide (y.int ≤ min a.hi b.hi))) := fun y => by
    rw [told_3 hk, told_3 hkb]
    cases (y.kind == 1)
    · rfl
    · rw [Bool.eq_iff_iff]
      simp only [Bool.true_and, Bool.and_eq_true, decide_eq_true_eq]
      omega
  unfold betwD
  refine ⟨fun m hm => ?_, fun hm y => ?_⟩
  · split at hm
    · cases hm
    · split at hm
      · next h5 h6 =>
        cases hm
        refine ⟨ok_1 hn (memB_one (numOk_iff.2 (by omega)) (by decide)), rfl, fun y => ?_⟩
        rw [key y]
        simp only [told, toldB, if_true]
        congr 1
        rw [Bool.eq_iff_iff, hasI_iff]
        simp
        omega
      · cases hm
        refine ⟨ok_3 hn (numOk_iff.2 (by omega)) (numOk_iff.2 (by omega)), rfl, fun y => ?_⟩
        rw [key y, told_3 rfl]
  · split at hm
    · next h5 =>
      rw [key y]
      by_cases h7 : max a.lo b.lo ≤ y.int
      · have : ¬ y.int ≤ min a.hi b.hi := by omega
        rw [decide_eq_false this]; simp
      · rw [decide_eq_false h7]; simp
    · split at hm <;> cases hm
theorem core_4 {a b : Pd} (ha : a.ok = true) (hb : b.ok = true) (hk : a.kind = 4) (hkb : b.kind = 4) : And2 (coreD a b) a b := by
  obtain ⟨hn, hc⟩ := ok_parts ha
  rcases hc with ⟨h, _⟩ | ⟨h, _⟩ | ⟨h, _⟩ | ⟨_, h1, h2, h3, h4⟩
  case inl => omega
  case inr.inl => omega
  case inr.inr.inl => omega
  obtain ⟨_, hc2⟩ := ok_parts hb
  rcases hc2 with ⟨h, _⟩ | ⟨h, _⟩ | ⟨h, _⟩ | ⟨_, g1, g2, g3, g4⟩
  case inl => omega
  case inr.inl => omega
  case inr.inr.inl => omega
  have one : ∀ {l : List ByteArray}, memB wordOk l 1 = true → ∃ s, l = [s] ∧ wordOk s = true := fun {l} h => by
    have hl := memB_ne h
    unfold memB at h
    simp only [Bool.and_eq_true, decide_eq_true_eq] at h
    match l, hl, h with
    | [s], _, h => exact ⟨s, rfl, by simpa using h.1⟩
    | _ :: _ :: _, _, h => simp at h; omega
  obtain ⟨s, hs, ws⟩ := one h1
  obtain ⟨t, ht, wt⟩ := one g1
  have fa : fstW a = s := by unfold fstW; rw [hs]; rfl
  have fb : fstW b = t := by unfold fstW; rw [ht]; rfl
  have hco : coreD a b = longD a.attr s t := by unfold coreD; rw [if_neg (by omega), if_neg (by omega), if_neg (by omega), if_neg (by omega), fa, fb]
  rw [hco]
  have key : ∀ y, (told a y && told b y) = ((y.kind == 2) && (prefB y.word s && prefB y.word t)) := fun y => by
    rw [told_4 hk, told_4 hkb, fa, fb]
    cases (y.kind == 2) <;> simp
  have szs : ∀ x : ByteArray, x.toList.length = x.size := fun x => size_toList x
  unfold longD
  split
  · next hlt =>
    have main : ∀ y : Pr, (prefB y.word s && prefB y.word t) = (prefB t s && prefB y.word t) := fun y => by
      rw [Bool.eq_iff_iff, Bool.and_eq_true, Bool.and_eq_true, prefB_list, prefB_list, prefB_list]
      constructor
      · rintro ⟨u1, u2⟩
        exact ⟨List.prefix_of_prefix_length_le u1 u2 (by rw [szs, szs]; omega), u2⟩
      · rintro ⟨u1, u2⟩
        exact ⟨u1.trans u2, u2⟩
    cases hp : prefB t s with
    | true =>
      rw [if_pos rfl]
      refine ⟨fun m hm => ?_, fun hm => by cases hm⟩
      cases hm
      refine ⟨ok_4 hn (memB_one wt (by decide)), rfl, fun y => ?_⟩
      rw [key y, main y, hp, told_4 rfl]
      rfl
    | false =>
      rw [if_neg (by simp)]
      refine ⟨(fun m hm => by cases hm), fun _ y => ?_⟩
      rw [key y, main y, hp]
      simp
  · next hlt =>
    have main : ∀ y : Pr, (prefB y.word s && prefB y.word t) = (prefB s t && prefB y.word s) := fun y => by
      rw [Bool.eq_iff_iff, Bool.and_eq_true, Bool.and_eq_true, prefB_list, prefB_list, prefB_list]
      constructor
      · rintro ⟨u1, u2⟩
        exact ⟨List.prefix_of_prefix_length_le u2 u1 (by rw [szs, szs]; omega), u1⟩
      · rintro ⟨u1, u2⟩
        exact ⟨u2, u1.trans u2⟩
    cases hp : prefB s t with
    | true =>
      rw [if_pos rfl]
      refine ⟨fun m hm => ?_, fun hm => by cases hm⟩
      cases hm
      refine ⟨ok_4 hn (memB_one ws (by decide)), rfl, fun y => ?_⟩
      rw [key y, main y, hp, told_4 rfl]
      rfl
    | false =>
      rw [if_neg (by simp)]
      refine ⟨(fun m hm => by cases hm), fun _ y => ?_⟩
      rw [key y, main y, hp]
      simp
theorem core_34 {a b : Pd} (hab : (a.kind = 3 ∧ b.kind = 4) ∨ (a.kind = 4 ∧ b.kind = 3)) : And2 (coreD a b) a b := by
  have hco : coreD a b = none := by unfold coreD; rcases hab with ⟨h1, h2⟩ | ⟨h1, h2⟩ <;> rw [if_neg (by omega), if_neg (by omega), if_pos (by omega)]
  rw [hco]
  refine ⟨(fun m hm => by cases hm), fun _ y => ?_⟩
  rcases hab with ⟨h1, h2⟩ | ⟨h1, h2⟩
  · rw [told_3 h1, told_4 h2]
    by_cases hy : y.kind = 1
    · have : (y.kind == 2) = false := by simp; omega
      simp [this]
    · have : (y.kind == 1) = false := by simp [hy]
      simp [this]
  · rw [told_4 h1, told_3 h2]
    by_cases hy : y.kind = 1
    · have : (y.kind == 2) = false := by simp; omega
      simp [this]
    · have : (y.kind == 1) = false := by simp [hy]
      simp [this]
theorem And2.swap {o : Option Pd} {a b : Pd} (h : And2 o b a) (hab : b.attr = a.attr) : And2 o a b := ⟨fun m hm => by obtain ⟨h1, h2, h3⟩ := h.1 m hm; exact ⟨h1, h2.trans hab, fun y => by rw [h3 y, Bool.and_comm]⟩, fun hm y => by rw [Bool.and_comm]; exact h.2 hm y⟩
theorem ok_kinds {p : Pd} (h : p.ok = true) : p.kind = 1 ∨ p.kind = 2 ∨ p.kind = 3 ∨ p.kind = 4 := by
  obtain ⟨_, hc⟩ := ok_parts h
  rcases hc with ⟨h, _⟩ | ⟨h, _⟩ | ⟨h, _⟩ | ⟨h, _⟩ <;> omega
theorem both_sem {a b : Pd} (ha : a.ok = true) (hb : b.ok = true) (hab : b.attr = a.attr) : And2 (bothD a b) a b := by
  have ka := ok_kinds ha
  have kb := ok_kinds hb
  unfold bothD
  cases hs : setK b with
  | true =>
    rw [if_pos rfl]
    refine And2.swap ?_ hab
    unfold setK at hs
    simp only [Bool.or_eq_true, decide_eq_true_eq] at hs
    rcases hs with h | h
    · exact core_1 hb ha h
    · exact core_2 hb ha h
  | false =>
    rw [if_neg (by simp)]
    unfold setK at hs
    simp only [Bool.or_eq_false_iff, decide_eq_false_iff_not] at hs
    rcases ka with h | h | h | h
    · exact core_1 ha hb h
    · exact core_2 ha hb h
    · rcases kb with g | g | g | g
      · exact absurd g hs.1
      · exact absurd g hs.2
      · exact core_3 ha hb h g
      · exact core_34 (Or.inl ⟨h, g⟩)
    · rcases kb with g | g | g | g
      · exact absurd g hs.1
      · exact absurd g hs.2
      · exact core_34 (Or.inr ⟨h, g⟩)
      · exact core_4 ha hb h g
end Go.Proofs.YtimklglliffpcaaGreat
namespace Go.Proofs.YtimklglliffpcaaGreat

/-- What a row of predicates of one attribute holds together. -/
def AndL (o : Option Pd) (f : Pr → Bool) (a : ByteArray) : Prop := (∀ m, o = some m → m.ok = true ∧ m.attr = a ∧ ∀ y, told m y = f y) ∧ (o = none → ∀ y, f y = false)
theorem meetGo_sem {a : ByteArray} : ∀ (qs : List Pd) (o : Option Pd) (f : Pr → Bool), AndL o f a → (∀ q ∈ qs, q.ok = true ∧ q.attr = a) → AndL (meetGo o qs) (fun y => f y && qs.all (told · y)) a
  | [], o, f, h, _ => by
    have e : meetGo o [] = o := by cases o <;> rfl
    rw [e]
    refine ⟨fun m hm => ?_, fun hm y => ?_⟩
    · obtain ⟨h1, h2, h3⟩ := h.1 m hm
      exact ⟨h1, h2, fun y => by rw [h3 y]; simp⟩
    · simp only [h.2 hm y, Bool.false_and]
  | q :: qs, o, f, h, hq => by
    obtain ⟨q1, q2⟩ := hq q (by simp)
    have ns := norm_sem q1
    cases o with
    | none =>
      rw [meetGo_none]
      exact ⟨(fun m hm => by cases hm), fun _ y => by simp only [h.2 rfl y, Bool.false_and]⟩
    | some m =>
      obtain ⟨m1, m2, m3⟩ := h.1 m rfl
      cases hn : normD q with
      | none =>
        have e : meetGo (some m) (q :: qs) = none := by simp only [meetGo, hn]
        rw [e]
        refine ⟨(fun m hm => by cases hm), fun _ y => ?_⟩
        have := ns.2 hn y
        simp [this]
      | some n =>
        obtain ⟨n1, n2, n3⟩ := ns.1 n hn
        have e : meetGo (some m) (q :: qs) = meetGo (bothD m n) qs := by simp only [meetGo, hn]; rw [if_pos (by rw [n2, q2, m2])]
        rw [e]
        have hb := both_sem m1 n1 (by rw [n2, q2, m2])
        have ih := meetGo_sem qs (bothD m n) (fun y => f y && told q y) ⟨fun k hk => by
          obtain ⟨b1, b2, b3⟩ := hb.1 k hk
          exact ⟨b1, b2.trans m2, fun y => by rw [b3 y, m3 y, n3 y]⟩, fun hk y => by simp only [← m3 y, ← n3 y]; exact hb.2 hk y⟩ (fun r hr => hq r (by simp [hr]))
        refine ⟨fun k hk => ?_, fun hk y => ?_⟩
        · obtain ⟨i1, i2, i3⟩ := ih.1 k hk
          exact ⟨i1, i2, fun y => by rw [i3 y]; simp [Bool.and_assoc]⟩
        · have := ih.2 hk y
          simp only [List.all_cons, ← Bool.and_assoc]
          exact this
theorem meetD_sem {a : ByteArray} {l : List Pd} (hl : l ≠ []) (h : ∀ q ∈ l, q.ok = true ∧ q.attr = a) : AndL (meetD l) (fun y => l.all (told · y)) a := by
  cases l with
  | nil => exact absurd rfl hl
  | cons p ps =>
    obtain ⟨p1, p2⟩ := h p (by simp)
    have ns := norm_sem p1
    have := meetGo_sem (a := a) ps (normD p) (fun y => told p y) ⟨fun m hm => by
      obtain ⟨n1, n2, n3⟩ := ns.1 m hm
      exact ⟨n1, n2.trans p2, n3⟩, fun hm y => ns.2 hm y⟩ (fun q hq => h q (by simp [hq]))
    simpa [meetD] using this
theorem all_holds (ev : List Pr) {a : ByteArray} : ∀ {l : List Pd}, l ≠ [] → (∀ q ∈ l, q.ok = true ∧ q.attr = a) → l.all (holdsD ev) = match getP a ev with | none => false | some y => decide (chkV y.kind y.int y.word = 0) && l.all (told · y) := by
  intro l hl h
  cases hg : getP a ev with
  | none =>
    cases l with
    | nil => exact absurd rfl hl
    | cons p ps =>
      obtain ⟨p1, p2⟩ := h p (by simp)
      have : holdsD ev p = false := by rw [holdsD_eq ev p1, p2, hg]
      simp [this]
  | some y =>
    have he : ∀ q ∈ l, holdsD ev q = (decide (chkV y.kind y.int y.word = 0) && told q y) := fun q hq => by
      obtain ⟨q1, q2⟩ := h q hq
      rw [holdsD_eq ev q1, q2, hg]
    simp only
    cases hc : decide (chkV y.kind y.int y.word = 0) with
    | true =>
      rw [Bool.true_and, Bool.eq_iff_iff, List.all_eq_true, List.all_eq_true]
      constructor
      · intro hx q hq
        have := hx q hq
        rw [he q hq, hc, Bool.true_and] at this
        exact this
      · intro hx q hq
        rw [he q hq, hc, Bool.true_and]
        exact hx q hq
    | false =>
      rw [Bool.false_and, List.all_eq_false]
      obtain ⟨p, hp⟩ := List.exists_mem_of_ne_nil l hl
      exact ⟨p, hp, by rw [he p hp, hc]; simp⟩
/-- A meet holds just where all do. -/
theorem meet_holds (ev : List Pr) {a : ByteArray} {l : List Pd} (hl : l ≠ []) (h : ∀ q ∈ l, q.ok = true ∧ q.attr = a) : (∀ m, meetD l = some m → m.ok = true ∧ m.attr = a ∧ holdsD ev m = l.all (holdsD ev)) ∧ (meetD l = none → l.all (holdsD ev) = false) := by
  have hs := meetD_sem hl h
  rw [all_holds ev hl h]
  refine ⟨fun m hm => ?_, fun hm => ?_⟩
  · obtain ⟨m1, m2, m3⟩ := hs.1 m hm
    refine ⟨m1, m2, ?_⟩
    rw [holdsD_eq ev m1, m2]
    cases getP a ev with
    | none => rfl
    | some y => simp only [m3 y]
  · have := hs.2 hm
    cases getP a ev with
    | none => rfl
    | some y => simp only [this y, Bool.and_false]
theorem okL_pos {ls : List Lt} (h : okL ls = true) : ∀ p ∈ posL ls, p.ok = true := fun p hp => by
  obtain ⟨l, hl, hn⟩ := List.mem_filterMap.1 hp
  split at hn
  · cases hn
  · cases hn
    unfold okL at h
    exact List.all_eq_true.1 h l hl
theorem grp_mem {ls : List Lt} {a : ByteArray} {p : Pd} : p ∈ grpD ls a ↔ p ∈ posL ls ∧ p.attr = a := by
  unfold grpD
  rw [List.mem_filter]
  simp
theorem posGo_sem {ls : List Lt} (h : okL ls = true) (ev : List Pr) : ∀ (ns : List ByteArray), (∀ a ∈ ns, grpD ls a ≠ []) → (∀ d, posGo ls ns = some d → (d.all (holdsD ev) = ns.all fun a => (grpD ls a).all (holdsD ev)) ∧ d.length = ns.length) ∧ (posGo ls ns = none → (ns.all fun a => (grpD ls a).all (holdsD ev)) = false)
  | [], _ => ⟨fun d hd => by cases hd; exact ⟨rfl, rfl⟩, (fun hd => by cases hd)⟩
  | a :: ns, hne => by
    have ih := posGo_sem h ev ns (fun b hb => hne b (by simp [hb]))
    have hm := meet_holds ev (a := a) (hne a (by simp)) (fun q hq => ⟨okL_pos h q (grp_mem.1 hq).1, (grp_mem.1 hq).2⟩)
    simp only [posGo]
    cases hmd : meetD (grpD ls a) with
    | none =>
      refine ⟨(fun d hd => by cases hd), fun _ => ?_⟩
      simp [hm.2 hmd]
    | some m =>
      obtain ⟨_, _, m3⟩ := hm.1 m hmd
      cases hg : posGo ls ns with
      | none =>
        refine ⟨(fun d hd => by cases hd), fun _ => ?_⟩
        simp [ih.2 hg]
      | some d =>
        refine ⟨fun e he => ?_, (fun hd => by cases hd)⟩
        obtain ⟨i1, i2⟩ := ih.1 d hg
        cases he
        simp [m3, i1, i2]
theorem names_ne {ls : List Lt} : ∀ a ∈ namesD ls, grpD ls a ≠ [] := fun a ha => by
  have := ((onceS_spec ((posL ls).map Pd.attr)).1 a).1 ha
  obtain ⟨p, hp, he⟩ := List.mem_map.1 this
  exact List.ne_nil_of_mem (grp_mem.2 ⟨hp, he⟩)
theorem names_all (ls : List Lt) (f : Pd → Bool) : ((namesD ls).all fun a => (grpD ls a).all f) = (posL ls).all f := by
  rw [Bool.eq_iff_iff, List.all_eq_true, List.all_eq_true]
  constructor
  · intro h p hp
    have ha : p.attr ∈ namesD ls := ((onceS_spec ((posL ls).map Pd.attr)).1 p.attr).2 (List.mem_map.2 ⟨p, hp, rfl⟩)
    exact List.all_eq_true.1 (h _ ha) p (grp_mem.2 ⟨hp, rfl⟩)
  · intro h a _
    rw [List.all_eq_true]
    exact fun p hp => h p (grp_mem.1 hp).1
theorem cptD_mem : ∀ (l acc : List Pd) (x : Pd), x ∈ l.foldl stepD acc ↔ x ∈ acc ∨ x ∈ l
  | [], acc, x => by simp
  | y :: l, acc, x => by
    rw [List.foldl_cons, cptD_mem l]
    have : x ∈ stepD acc y ↔ x ∈ acc ∨ x = y := by
      unfold stepD
      split
      · next h =>
        have hy : y ∈ acc := List.mem_of_getLast? h
        constructor
        · exact Or.inl
        · rintro (h | rfl)
          · exact h
          · exact hy
      · simp
    rw [this, List.mem_cons, or_assoc]
theorem negD_mem {ls : List Lt} {x : Pd} : x ∈ negD ls ↔ x ∈ negL ls := by
  unfold negD cptD
  rw [cptD_mem]
  simp [(srtD_perm (negL ls)).mem_iff]
theorem neg_any {ls : List Lt} (h : okL ls = true) (ev : List Pr) : (negD ls).any (holdsD ev) = ls.any fun l => l.neg && holdsD ev (ltPd l) := by
  rw [Bool.eq_iff_iff, List.any_eq_true, List.any_eq_true]
  constructor
  · rintro ⟨m, hm, hh⟩
    obtain ⟨l, hl, hn⟩ := List.mem_filterMap.1 (negD_mem.1 hm)
    have hok : (ltPd l).ok = true := by unfold okL at h; exact List.all_eq_true.1 h l hl
    split at hn
    · next hneg =>
      obtain ⟨n1, n2, n3⟩ := (norm_sem hok).1 m hn
      refine ⟨l, hl, ?_⟩
      rw [hneg, Bool.true_and, ← holds_of_told ev n1 hok n2 n3]
      exact hh
    · cases hn
  · rintro ⟨l, hl, hh⟩
    rw [Bool.and_eq_true] at hh
    have hok : (ltPd l).ok = true := by unfold okL at h; exact List.all_eq_true.1 h l hl
    cases hn : normD (ltPd l) with
    | none =>
      exfalso
      have := (norm_sem hok).2 hn
      have h2 := hh.2
      rw [holdsD_eq ev hok] at h2
      cases hg : getP (ltPd l).attr ev with
      | none => rw [hg] at h2; cases h2
      | some y => rw [hg] at h2; simp [this y] at h2
    | some m =>
      obtain ⟨n1, n2, n3⟩ := (norm_sem hok).1 m hn
      exact ⟨m, negD_mem.2 (List.mem_filterMap.2 ⟨l, hl, by rw [if_pos hh.1]; exact hn⟩), by rw [holds_of_told ev n1 hok n2 n3]; exact hh.2⟩
theorem ltH_pd (ev : List Pr) (l : Lt) : ltH ev l = (holdsD ev (ltPd l) != l.neg) := rfl
theorem all_lt (ls : List Lt) (ev : List Pr) : ls.all (ltH ev) = ((posL ls).all (holdsD ev) && !(ls.any fun l => l.neg && holdsD ev (ltPd l))) := by
  induction ls with
  | nil => rfl
  | cons l ls ih =>
    rw [List.all_cons, ih, ltH_pd, List.any_cons]
    cases hn : l.neg with
    | true =>
      have : posL (l :: ls) = posL ls := by unfold posL; rw [List.filterMap_cons]; simp [hn]
      rw [this]
      cases holdsD ev (ltPd l) <;> simp
    | false =>
      have : posL (l :: ls) = ltPd l :: posL ls := by unfold posL; rw [List.filterMap_cons]; simp [hn]
      rw [this, List.all_cons]
      cases holdsD ev (ltPd l) <;> simp
/-- A conjunction holds just where its literals do. -/
theorem make_sem {ls : List Lt} (h : okL ls = true) (ev : List Pr) : holdsC (makeD ls).never (makeD ls).pos (makeD ls).neg ev = ls.all (ltH ev) := by
  have hp := posGo_sem h ev (namesD ls) names_ne
  rw [all_lt, ← neg_any h ev, ← names_all ls (holdsD ev)]
  unfold makeD makeC posD
  rw [h, if_pos rfl]
  cases hd : posGo ls (namesD ls) with
  | none => simp [holdsC, hp.2 hd]
  | some d =>
    rw [← (hp.1 d hd).1]
    simp only [holdsC, Bool.not_false, Bool.true_and]
    congr 1
    rw [Bool.eq_iff_iff]
    simp
theorem all_sem (t : Nd) (m : Int) (ev : List Pr) (h0 : expE t m = 0) : (allC t m).any (fun d => holdsC d.never d.pos d.neg ev) = truN ev t := by
  have hx : chkN t = true := by
    unfold expE at h0
    cases hk : chkN t with
    | true => rfl
    | false =>
      simp only [WidthE, hk] at h0
      simp at h0
  have hc := (cj_all ev (downN t false) (chk_down t false hx) (at_down t false hx)).2
  have hd : truN ev (downN t false) = truN ev t := by
    have := tru_down ev t false hx
    simpa using this
  rw [← hd, ← hc]
  unfold allC anyC expC
  rw [if_pos h0, List.any_map]
  have hok : ∀ c ∈ cjN (downN t false), okL c = true := cj_ok t false hx
  rw [Bool.eq_iff_iff, List.any_eq_true, List.any_eq_true]
  constructor
  · rintro ⟨c, hc1, hc2⟩
    refine ⟨c, hc1, ?_⟩
    rw [← make_sem (hok c hc1) ev]
    exact hc2
  · rintro ⟨c, hc1, hc2⟩
    refine ⟨c, hc1, ?_⟩
    show holdsC (makeD c).never (makeD c).pos (makeD c).neg ev = true
    rw [make_sem (hok c hc1) ev]
    exact hc2
end Go.Proofs.YtimklglliffpcaaGreat

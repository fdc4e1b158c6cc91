/- What the reference's New returns, for every list of attributes. -/
import Derived.Test.YtdgoibnndfibnaaGreatDoorRZba
import Derived.Test.YtdgoibnndfibnaaGreatDoorRZat
import Derived.Lib.QuietBelow
namespace Go.Proofs.YtdgoibnndfibnaaGreatDoor.Sc
open Go.RowKit Go.Sort Go.Shelf
def hasN (l:List (ByteArray × Int)) (s:ByteArray):Bool:=l.any fun y=>y.1.toList == s.toList
theorem nodup_has {l:List (ByteArray × Int)} {k:Nat} {x:ByteArray × Int} (hn:(l.map nmA).Nodup) (hx:l[k]? = some x):hasN (l.take k) x.1=false:=by
 rw [Bool.eq_false_iff]
 intro h
 unfold hasN at h
 rw [List.any_eq_true] at h
 obtain ⟨y,hy,he⟩:=h
 obtain ⟨j,hj,rfl⟩:=List.mem_iff_getElem.1 hy
 have hjk:j < k:=by simp at hj;omega
 obtain ⟨hkl,ex⟩:=List.getElem?_eq_some_iff.1 hx
 unfold List.Nodup at hn
 rw [List.pairwise_iff_getElem] at hn
 refine hn j k (by simp;omega) (by simpa using hkl) hjk ?_
 simp only [List.getElem_map,nmA,ex]
 simpa [List.getElem_take] using he
theorem take_snoc {α:Type} {l:List α} {k:Nat} {x:α} (hx:l[k]? = some x):l.take (k + 1)=l.take k ++ [x]:=by
 rw [List.take_add_one,hx];rfl
/-- x at the place k. -/
def putAt {α:Type} (o:List α) (k:Nat) (x:α):List α:=o.take k ++ [x] ++ o.drop k
theorem put_perm {α:Type} (o:List α) (k:Nat) (x:α):(putAt o k x).Perm (o ++ [x]):=by
 unfold putAt
 have h1:(o.take k ++ [x] ++ o.drop k).Perm (o.take k ++ (o.drop k ++ [x])):=by
  rw [List.append_assoc]
  exact List.perm_append_comm.append_left _
 rw [<- List.append_assoc,List.take_append_drop] at h1
 exact h1
theorem put_length {α:Type} (o:List α) (k:Nat) (x:α):(putAt o k x).length=o.length + 1:=by
 rw [(put_perm o k x).length_eq];simp
theorem put_strict {α:Type} {nm:α->List UInt8} {o:List α} {k:Nat} {x:α} (h:Strict nm o) (hlo:∀ y ∈ o.take k,Op.bytesLess (nm y) (nm x)=true) (hhi:∀ y ∈ o.drop k,Op.bytesLess (nm x) (nm y)=true):Strict nm (putAt o k x):=by
 unfold Strict putAt at *
 rw [List.pairwise_append,List.pairwise_append]
 refine ⟨⟨h.sublist (List.take_sublist k o),List.pairwise_singleton _ _,fun a ha b hb=>?_⟩,h.sublist (List.drop_sublist k o),fun a ha b hb=>?_⟩
 ·obtain rfl:b=x:=by simpa using hb
  exact hlo a ha
 ·rcases List.mem_append.1 ha with ha | ha
  ·have hx:=hlo a ha
   exact less_trans _ _ _ hx (hhi b hb)
  ·obtain rfl:a=x:=by simpa using ha
   exact hhi b hb
/-- What stands at k and behind is greater, once k is not less and no name is x's. -/
theorem drop_more {α:Type} {nm:α->List UInt8} {o:List α} {k:Nat} {x:α} (h:Strict nm o) (hne:∀ y ∈ o,nm y ≠ nm x) (hk:∀ y,o[k]? = some y->Op.bytesLess (nm y) (nm x)=false):∀ y ∈ o.drop k,Op.bytesLess (nm x) (nm y)=true:=by
  intro y hy
  by_cases hlt:k < o.length
  · have e:o.drop k=o[k] :: o.drop (k + 1):=List.drop_eq_getElem_cons hlt
    have h0:Op.bytesLess (nm x) (nm o[k])=true:=less_total _ _ (hk _ (List.getElem?_eq_getElem hlt)) (hne _ (List.getElem_mem hlt))
    rw [e] at hy
    rcases List.mem_cons.1 hy with rfl | hy
    · exact h0
    · have hs:(o.drop k).Pairwise fun x y=>Op.bytesLess (nm x) (nm y)=true:=h.sublist (List.drop_sublist k o)
      rw [e,List.pairwise_cons] at hs
      exact less_trans _ _ _ h0 (hs.1 y hy)
  · rw [List.drop_of_length_le (by omega)] at hy;cases hy
theorem take_less {α:Type} {nm:α->List UInt8} {o:List α} {k:Nat} {x:α} (h:∀ (j:Nat) (y:α),j < k->o[j]? = some y->Op.bytesLess (nm y) (nm x)=true):∀ y ∈ o.take k,Op.bytesLess (nm y) (nm x)=true:=by
 intro y hy
 obtain ⟨j,hj,rfl⟩:=List.mem_iff_getElem.1 hy
 simp at hj
 rw [List.getElem_take]
 exact h j _ (by omega) (List.getElem?_eq_getElem (by omega))
theorem cmpS_neg {a b:List UInt8}:cmpS a b < 0 ↔ Op.bytesLess a b=true:=by
 rcases cmpS_cases a b with ⟨h1,h2⟩ | ⟨rfl,h2⟩ | ⟨h1,h2⟩
 ·rw [h2];simp [h1]
 ·rw [h2,less_irrefl];simp
 ·rw [h2,less_asymm _ _ h1];simp
theorem kind_zero {o:List (ByteArray × Int)} {s:ByteArray} (hok:∀ y ∈ o,atOk y=true):kindOf o s=0 ↔ ∀ y ∈ o,y.1.toList ≠ s.toList:=by
 induction o with
 | nil=>simp [kindOf]
 | cons y r ih =>
  unfold kindOf
  have hy:=hok y (by simp)
  have hr:=ih fun z hz=>hok z (List.mem_cons_of_mem _ hz)
  by_cases h:y.1.toList=s.toList
  ·rw [if_pos (by simp [h])]
   unfold atOk at hy
   rw [Bool.and_eq_true,Bool.or_eq_true] at hy
   constructor
   ·intro h0;rcases hy.2 with h1 | h1 <;> (have:=eq_of_beq h1;omega)
   ·intro h0;exact absurd h (h0 y (by simp))
  ·rw [if_neg (by simpa using h),hr]
   constructor
   ·intro h0 z hz
    rcases List.mem_cons.1 hz with rfl | hz
    ·exact h
    ·exact h0 z hz
   ·intro h0 z hz;exact h0 z (List.mem_cons_of_mem _ hz)
theorem name_small {s:ByteArray} (h:nameOk s=true):s.size<=maxLen:=by
 unfold nameOk at h
 simp only [Bool.and_eq_true,decide_eq_true_eq] at h
 unfold maxLen;omega
theorem atOk_name {x:ByteArray × Int} (h:atOk x=true):nameOk x.1=true:=by
 unfold atOk at h;rw [Bool.and_eq_true] at h;exact h.1
/-- What the reference's New returns. -/
def RefNewRes (B:Nat) (l:List (ByteArray × Int)) (e:Ending) (w':World):Prop :=
  (64 < l.length/\e=.returned (.tuple #[.slice none 0 0,.int .i64 2])) ∨
  (l.length<=64/\¬ (l.all atOk=true/\(l.map nmA).Nodup)/\e=.returned (.tuple #[.slice none 0 0,.int .i64 1])) ∨
  (l.length<=64/\l.all atOk=true/\(l.map nmA).Nodup/\∃ q cap ls,e=.returned (.tuple #[.slice q ls.length cap,.int .i64 0])/\ls.Perm l/\Strict nmA ls/\NewA B w' q cap ls)
theorem not_ok {l:List (ByteArray × Int)} {k:Nat} {x:ByteArray × Int} (hx:l[k]? = some x) (h:atOk x=false):¬ (l.all atOk=true/\(l.map nmA).Nodup):=fun hh=>by
 rw [all_no hx h] at hh;cases hh.1
theorem not_dup {l o:List (ByteArray × Int)} {k:Nat} {x y:ByteArray × Int} (hp:o.Perm (l.take k)) (hx:l[k]? = some x) (hy:y ∈ o) (h:y.1.toList=x.1.toList):¬ (l.all atOk=true/\(l.map nmA).Nodup):=fun hh=>by
 have:=nodup_has hh.2 hx
 unfold hasN at this
 rw [Bool.eq_false_iff] at this
 exact this (List.any_eq_true.2 ⟨y,hp.mem_iff.1 hy,by simp [h]⟩)
theorem AtsOf.one {w:World} {b off:Nat} {x:ByteArray × Int} (hb:b < w.heap.size) (h0:w.cell? ⟨b,off,none⟩=some (.string x.1)) (h1:w.cell? ⟨b,off + 1,none⟩=some (.int .i64 x.2)):AtsOf w (some ⟨b,off,none⟩) [x]:=fun _=>by
 refine ⟨b,off,rfl,hb,fun j y hj=>?_⟩
 match j,hj with
 | 0,hj=>simp only [List.getElem?_cons_zero,Option.some.injEq] at hj;subst hj;exact ⟨by simpa using h0,by simpa using h1⟩
theorem OwnK.made_at {α:Type} [Inhabited α] {enc:α->List Value} {e:TypeId} {k:Nat} (B H:Nat) (w:World) (hB:B<=w.heap.size) (hH:w.heap.size=H):OwnK enc e k B (w.alloc (.cells #[] e)) (some ⟨H,0,none⟩) 0 ([]:List α):=by
 subst hH
 exact OwnK.made B w hB
set_option maxHeartbeats 4000000 in
set_option maxRecDepth 100000 in
theorem refNew_any (p:Option Addr) (cap:Nat) (l:List (ByteArray × Int)) (w:World) (hl:l.length * 24<=140737488355328) (hA:AtsOf w p l) :
  Calls Tryz.prog 29 #[.slice p l.length cap] w fun e w'=>RefNewRes w.heap.size l e w'/\Below w.heap.size w w':=by
 have mixed:Tryz.prog.follows .mixedOrders=true:=by kernel_rfl
 by_cases h64:64 < l.length
 ·have i1:(64:Int) < (l.length:Int):=by omega
  clear hA
  go_enter Tryz.func29,Tryz.ntmps29
  go_wp2
  go_ret2
  exact ⟨Or.inl ⟨h64,rfl⟩,Below.refl _ _⟩
 ·have i1:¬ (64:Int) < (l.length:Int):=by omega
  have H64:Hid (l.length<=64):=hide (by omega)
  have e24:∀ args w,(callFunc 60 args).run Tryz.prog w=.ok (.enter 60 args) w:=enters_of Tryz.func60 (by kernel_rfl) rfl
  have e18:∀ args w,(callFunc 61 args).run Tryz.prog w=.ok (.enter 61 args) w:=enters_of Tryz.func61 (by kernel_rfl) rfl
  have e31:∀ args w,(callFunc 62 args).run Tryz.prog w=.ok (.enter 62 args) w:=enters_of Tryz.func62 (by kernel_rfl) rfl
  have HA:=hide hA
  clear hA
  go_enter Tryz.func29,Tryz.ntmps29
  go_wp2
  go_loopw [4,5] (fun v i wr=>∃ (m:Nat) (o:List (ByteArray × Int)) (q:Option Addr) (cp:Nat),m<=l.length/\i=.int .i64 m/\v=.slice q o.length cp/\Hid (o.Perm (l.take m))/\Hid (Strict nmA o)/\Hid (NewA w.heap.size wr q cp o)/\Hid (∀ y ∈ o,atOk y=true)/\Below w.heap.size w wr) (fun _ i _=>l.length - (intOf i).toNat)
  case atStart=>exact ⟨0,[],none,0,by omega,rfl,rfl,hide (List.Perm.refl _),hide List.Pairwise.nil,hide (Or.inl ⟨rfl,rfl,rfl⟩),hide (fun y hy=>by cases hy),Below.refl _ _⟩
  case round =>
   obtain ⟨m,o,q,cp,hm,rfl,rfl,Hp,Hs,HN,Hok,hbel⟩:=hrel
   by_cases hlt:m < l.length
   ·obtain ⟨bb,off,rfl,hbb,hAt⟩:=uh HA (by omega)
    obtain ⟨x,hx,-⟩:=get_at hlt
    have ki0:(0:Int)<=(m:Int):=by omega
    have ki1:(m:Int) < (l.length:Int):=by omega
    obtain ⟨g0,g1⟩:=hAt.below hbel hbb m x hx
    have Hx:=hide hx
    have Hbel:=hide hbel
    have HAt:=hide (hAt.below hbel hbb)
    have Hbb:Hid (bb < wr.heap.size):=hide (Nat.lt_of_lt_of_le hbb hbel.size)
    have Hol:Hid (o.length=m):=hide (by rw [(uh Hp).length_eq,List.length_take];omega)
    have hom:o.length<=64:=by rw [uh Hol];omega
    have y0:∀ n os,(grow (redrawn wr n) os).cell? ⟨bb,off + m * 2,none⟩=some (.string x.1):=cell_regrown g0
    have y1:∀ n os,(grow (redrawn wr n) os).cell? ⟨bb,off + m * 2 + 1,none⟩=some (.int .i64 x.2):=cell_regrown g1
    clear hx hbel hAt
    have hnm:=fun (W:World)=>refName_any x.1 W
    cases hn:nameOk x.1 with
    | false =>
     have Hno:=hide (not_ok (uh Hx) (by unfold atOk;rw [hn];rfl))
     rw [hn] at hnm
     clear hn
     go_wp2_with (first | (go_at_call 60;refine (hnm _).mono ?_;rintro e w1 ⟨rfl,rfl⟩))
     go_ret2
     exact ⟨Or.inr (Or.inl ⟨uh H64,uh Hno,rfl⟩),uh Hbel⟩
    | true =>
     rw [hn] at hnm
     by_cases hx1:x.2=1
     ·have n1:(x.2 != 1)=false:=by simp [hx1]
      have hkd:=fun (V:World) (hv:Below wr.heap.size wr V)=>refKind_any q cp o x.1 V (by omega) ((uh HN).of.below hv)
      have Hat:Hid (atOk x=true):=hide (by unfold atOk;rw [hn];rw [Bool.true_and,Bool.or_eq_true];left;simp [hx1])
      clear hn hx1
      by_cases hz:kindOf o x.1=0
      ·rw [hz] at hkd
       have Hne:Hid (∀ y ∈ o,nmA y ≠ nmA x):=hide ((kind_zero (uh Hok)).1 hz)
       clear hz
       go_wp2_with (first
        | (go_at_call 60;refine (hnm _).mono ?_;rintro e w1 ⟨rfl,rfl⟩)
        | (go_at_call 61;refine (hkd _ (Below.refl _ _)).mono ?_;rintro e w2 ⟨rfl,b2⟩;have B2:=hide b2;clear b2))
       go_loopw [6] (fun kv wv=>∃ kk:Nat,kk<=o.length/\kv=.int .i64 kk/\Hid (∀ (j:Nat) (y:ByteArray × Int),j < kk->o[j]? = some y->Op.bytesLess (nmA y) (nmA x)=true)/\Below w2.heap.size w2 wv) (fun kv _=>o.length - (intOf kv).toNat)
       case atStart=>exact ⟨0,by omega,rfl,hide (fun j y hj=>by omega),Below.refl _ _⟩
       case round =>
        obtain ⟨kk,hkk,rfl,Hlo,hbel2⟩:=hrel
        have hAtv:=(uh HAt).below (below_sub (uh B2) hbel2) (uh Hbb)
        have hbv:bb < wr.heap.size:=by have:=(below_sub (uh B2) hbel2).size;have:=uh Hbb;omega
        have Hbel2:=hide hbel2
        rcases (uh HN).below (below_sub (uh B2) hbel2) with ⟨rfl,rfl,rfl⟩ | ⟨g,rfl,hB,hg,hH,hcp,hcm⟩
        ·obtain rfl:kk=0:=by simpa using hkk
         have Hnl:Hid (∀ y,([]:List (ByteArray × Int))[0]? = some y->Op.bytesLess (nmA y) (nmA x)=false):=hide (fun y hy=>by cases hy)
         clear hkd y0 y1 hnm e24 e18 hkk hom
         simp only [List.length_nil,Int.natCast_zero]
         go_wp2
         refine wp_region_quiet_below (by assumption) (by kernel_rfl) ?_
         repeat (go_big_quiet_step (fail))
         refine wpQuiet_nil ?_
         intro _ hw'
         obtain ⟨⟨dq,osq⟩,hw''⟩:=hw'
         subst hw''
         have hBV:=below_regrown wr dq osq
         have hAV:=hAtv.below hBV hbv
         have hbV:bb < (grow (redrawn wr dq) osq).heap.size:=Nat.lt_of_lt_of_le hbv hBV.size
         generalize grow (redrawn wr dq) osq=V0 at *
         obtain ⟨g0,g1⟩:=hAV m x (uh Hx)
         have BV:=hide (below_sub (below_sub (uh Hbel) (uh B2)) (below_sub (uh Hbel2) hBV))
         clear hBV
         go_wp2
         go_region_held3 (fun w'=>w'.cell? ⟨bb,off + m * 2,none⟩=some (.string x.1)/\w'.cell? ⟨bb,off + m * 2 + 1,none⟩=some (.int .i64 x.2)) (first | go_keep | exact ⟨(hb10'.cell hbV).trans g0,(hb10'.cell hbV).trans g1⟩ | exact ⟨(hb9'.cell hbV).trans g0,(hb9'.cell hbV).trans g1⟩ | exact ⟨(hb8'.cell hbV).trans g0,(hb8'.cell hbV).trans g1⟩) ((first
          | (refine step_app rowA (by rfl) (.tmp 69) (.tmp 72) (by rfl) V0.heap.size (some ⟨V0.heap.size,0,none⟩) 0 [] none 0 [] 0 0 0 rfl rfl (by simp) (by rfl) (by rfl) (by first | exact OwnK.made _ _ (Nat.le_refl _) | exact (OwnK.made _ _ (Nat.le_refl _)).below (by repeat (first | exact Below.refl _ _ | refine Below.drew ?_ | refine Below.alloc ?_ (by first | exact Nat.le_refl _ | (simp;done) | (simp;omega)) _))) ((fun V (_:Below V0.heap.size V0 V)=>SrcK.ofA (w:=V) (fun _=>⟨rfl,rfl⟩) (AtsOf.nil _ _)) _ (by repeat (first | exact Below.refl _ _ | refine Below.drew ?_ | refine Below.alloc ?_ (by first | exact Nat.le_refl _ | (simp;done) | (simp;omega)) _))) (by unfold maxLen;omega) (by omega) (by first | (simp;done) | (simp;omega)) ?_;intro q8 cp8 w8 hown8 hb8 _ hg8;have hb8':Below V0.heap.size V0 w8:=Below.trans (by repeat (first | exact Below.refl _ _ | refine Below.drew ?_ | refine Below.alloc ?_ (by first | exact Nat.le_refl _ | (simp;done) | (simp;omega)) _)) hb8)
          | (refine step_app rowA (by rfl) (.tmp 69) (.tmp 72) (by rfl) V0.heap.size (some ⟨V0.heap.size + 1,0,none⟩) 0 [] none 0 [] 0 0 0 rfl rfl (by simp) (by rfl) (by rfl) (OwnK.made_at _ _ (V0.alloc (.cells #[.string x.1,.int .i64 x.2] 62)) (by simp) (by simp)) ((fun V (_:Below V0.heap.size V0 V)=>SrcK.ofA (w:=V) (fun _=>⟨rfl,rfl⟩) (AtsOf.nil _ _)) _ (by repeat (first | exact Below.refl _ _ | refine Below.drew ?_ | refine Below.alloc ?_ (by first | exact Nat.le_refl _ | (simp;done) | (simp;omega)) _))) (by unfold maxLen;omega) (by omega) (by first | (simp;done) | (simp;omega)) ?_;intro q8 cp8 w8 hown8 hb8 _ hg8;have hb8':Below V0.heap.size V0 w8:=Below.trans (by repeat (first | exact Below.refl _ _ | refine Below.drew ?_ | refine Below.alloc ?_ (by first | exact Nat.le_refl _ | (simp;done) | (simp;omega)) _)) hb8)
          | (refine step_app rowA (by rfl) (.tmp 73) (.tmp 78) (by rfl) V0.heap.size q8 cp8 [] (some ⟨w8.heap.size,0,none⟩) 1 [x] 0 1 (0 + 1) rfl rfl rfl (by rfl) (by rfl) (hown8.below (by repeat (first | exact Below.refl _ _ | refine Below.drew ?_ | refine Below.alloc ?_ (by first | exact Nat.le_refl _ | (simp;done) | (simp;omega)) _))) (SrcK.ofA (fun h=>by cases h) (AtsOf.one (by simp) (by go_simp) (by go_simp))) (by unfold maxLen;omega) (by omega) (by have:=hb8'.size;simp;omega) ?_;intro q9 cp9 w9 hown9 hb9 _ _;have hb9':Below V0.heap.size V0 w9:=(hb8'.trans (by repeat (first | exact Below.refl _ _ | refine Below.drew ?_ | refine Below.alloc ?_ (by first | exact Nat.le_refl _ | exact hb8'.size | (have:=hb8'.size;simp;omega)) _))).trans hb9)
          | (refine step_app rowA (by rfl) (.tmp 73) (.tmp 78) (by rfl) V0.heap.size q8 cp8 [] (some ⟨V0.heap.size + 1,0,none⟩) 1 [x] 0 1 (0 + 1) rfl rfl rfl (by rfl) (by rfl) (hown8.below (by repeat (first | exact Below.refl _ _ | refine Below.drew ?_ | refine Below.alloc ?_ (by first | exact Nat.le_refl _ | (simp;done) | (simp;omega)) _))) (SrcK.ofA (fun h=>by cases h) (AtsOf.one (by have:=hg8.size;simp at this;omega) (by rw [hg8.cell_far _ (by first | (simp;done) | (simp;omega)) (by simp [Value.ownBlock])];go_simp) (by rw [hg8.cell_far _ (by first | (simp;done) | (simp;omega)) (by simp [Value.ownBlock])];go_simp))) (by unfold maxLen;omega) (by omega) (by have:=hb8'.size;simp;omega) ?_;intro q9 cp9 w9 hown9 hb9 _ _;have hb9':Below V0.heap.size V0 w9:=(hb8'.trans (by repeat (first | exact Below.refl _ _ | refine Below.drew ?_ | refine Below.alloc ?_ (by first | exact Nat.le_refl _ | exact hb8'.size | (have:=hb8'.size;simp;omega)) _))).trans hb9)
          | (refine step_app rowA (by rfl) (.tmp 73) (.tmp 78) (by rfl) V0.heap.size q8 cp8 [] (some ⟨V0.heap.size,0,none⟩) 1 [x] 0 1 (0 + 1) rfl rfl rfl (by rfl) (by rfl) (hown8.below (by repeat (first | exact Below.refl _ _ | refine Below.drew ?_ | refine Below.alloc ?_ (by first | exact Nat.le_refl _ | (simp;done) | (simp;omega)) _))) (SrcK.ofA (fun h=>by cases h) (AtsOf.one (by have:=hg8.size;simp at this;omega) (by rw [hg8.cell_far _ (by first | (simp;done) | (simp;omega)) (by simp [Value.ownBlock])];go_simp) (by rw [hg8.cell_far _ (by first | (simp;done) | (simp;omega)) (by simp [Value.ownBlock])];go_simp))) (by unfold maxLen;omega) (by omega) (by have:=hb8'.size;simp;omega) ?_;intro q9 cp9 w9 hown9 hb9 _ _;have hb9':Below V0.heap.size V0 w9:=(hb8'.trans (by repeat (first | exact Below.refl _ _ | refine Below.drew ?_ | refine Below.alloc ?_ (by first | exact Nat.le_refl _ | exact hb8'.size | (have:=hb8'.size;simp;omega)) _))).trans hb9)
          | (refine step_app rowA (by rfl) (.tmp 79) (.tmp 82) (by rfl) V0.heap.size q9 cp9 ([] ++ [x]) none 0 [] (0 + 1) 0 1 rfl (by simp) rfl (by rfl) (by rfl) hown9 ((fun V (_:Below V0.heap.size V0 V)=>SrcK.ofA (w:=V) (fun _=>⟨rfl,rfl⟩) (AtsOf.nil _ _)) _ hb9') (by unfold maxLen;omega) (by omega) (by have:=hb9'.size;simpa using this) ?_;intro q10 cp10 w10 hown10 hb10 _ _;have hb10':=hb9'.trans hb10)))
         all_goals
          have HNx:Hid (NewA w.heap.size w10 q10 cp10 (putAt [] 0 x)):=hide (OwnK.newA (hown10.mono (uh BV).size))
          have Hb10:=hide (below_sub (uh BV) hb10')
          have Hpp:Hid ((putAt [] 0 x).Perm (l.take (m + 1))):=hide (by rw [take_snoc (uh Hx)];exact (put_perm [] 0 x).trans ((uh Hp).append_right [x]))
          have Hss:Hid (Strict nmA (putAt [] 0 x)):=hide (put_strict (uh Hs) (take_less (uh Hlo)) (drop_more (uh Hs) (uh Hne) (uh Hnl)))
          have Hoo:Hid (∀ y ∈ putAt [] 0 x,atOk y=true):=hide (fun y hy=>by
           rcases List.mem_append.1 ((put_perm [] 0 x).mem_iff.1 hy) with h | h
           ·exact uh Hok y h
           ·obtain rfl:y=x:=by simpa using h
            exact uh Hat)
          clear hown8 hown9 hown10 hb8 hb9 hb10 hb8' hb9' hb10' hg8 g0 g1 hAV hbV
          go_wp2
          go_roundw
          case rel=>exact ⟨m + 1,putAt [] 0 x,q10,cp10,by omega,by go_num,by rw [put_length];rfl,Hpp,Hss,HNx,Hoo,uh Hb10⟩
          case measure=>simp [intOf];omega
        ·have hAo:AtsAt wr g 0 o:=AtsAt.of_holds hH
         have HAo:=hide hAo
         have Hg:=hide hg
         have kk0:(0:Int)<=(kk:Int):=by omega
         have kk1:(kk:Int)<=(o.length:Int):=by omega
         have kk2:(kk:Int)<=(cp:Int):=by omega
         have kk3:(o.length:Int)<=(cp:Int):=by omega
         have y0:∀ n os,(grow (redrawn wr n) os).cell? ⟨bb,off + m * 2,none⟩=some (.string x.1):=cell_regrown (hAtv m x (uh Hx)).1
         have y1:∀ n os,(grow (redrawn wr n) os).cell? ⟨bb,off + m * 2 + 1,none⟩=some (.int .i64 x.2):=cell_regrown (hAtv m x (uh Hx)).2
         clear hH hAo hg hB hbel2 HN
         by_cases hkl:kk < o.length
         ·obtain ⟨y,hy,-⟩:=get_at hkl
          have kk4:(kk:Int) < (o.length:Int):=by omega
          have z0:∀ n os,(grow (redrawn wr n) os).cell? ⟨g,kk * 2,none⟩=some (.string y.1):=cell_regrown (by simpa using ((uh HAo) kk y hy).1)
          have htx:=fun (V:World)=>texts_any y.1 x.1 V (name_small (atOk_name (uh Hok y (List.mem_of_getElem? hy))))
          have Hy:=hide hy
          clear hy
          by_cases hneg:cmpS y.1.toList x.1.toList < 0
          ·have Hlo2:Hid (∀ (j:Nat) (z:ByteArray × Int),j < kk + 1->o[j]? = some z->Op.bytesLess (nmA z) (nmA x)=true):=hide (fun j z hj hz=>by
            by_cases e:j=kk
            ·subst e
             obtain rfl:z=y:=Option.some.inj (hz.symm.trans (uh Hy))
             exact cmpS_neg.1 hneg
            ·exact uh Hlo j z (by omega) hz)
           generalize cmpS y.1.toList x.1.toList=r at htx hneg
           clear hkd hnm e24 e18
           go_wp2
           refine wp_region_quiet_below (by assumption) (by kernel_rfl) ?_
           repeat (go_big_quiet_step (first | (go_at_fn 62;refine Calls.regrown_of (htx _))))
           refine wpQuiet_nil ?_
           intro _ hw'
           obtain ⟨⟨dq,osq⟩,hw''⟩:=hw'
           subst hw''
           go_wp2
           go_roundw
           case rel=>exact ⟨kk + 1,by omega,by go_num,Hlo2,below_sub (uh Hbel2) (below_regrown _ _ _)⟩
           case measure=>simp [intOf];omega
          ·have hnb:Op.bytesLess (nmA y) (nmA x)=false:=by
            rw [Bool.eq_false_iff];intro h;exact hneg (cmpS_neg.2 h)
           generalize cmpS y.1.toList x.1.toList=r at htx hneg
           have Hnl:Hid (∀ y,o[kk]? = some y->Op.bytesLess (nmA y) (nmA x)=false):=hide (fun z hz=>by obtain rfl:z=y:=Option.some.inj (hz.symm.trans (uh Hy));exact hnb)
           clear hkd hnm e24 e18
           go_wp2
           refine wp_region_quiet_below (by assumption) (by kernel_rfl) ?_
           repeat (go_big_quiet_step (first | (go_at_fn 62;refine Calls.regrown_of (htx _))))
           refine wpQuiet_nil ?_
           intro _ hw'
           obtain ⟨⟨dq,osq⟩,hw''⟩:=hw'
           subst hw''
           have hBV:=below_regrown wr dq osq
           have hAV:=hAtv.below hBV hbv
           have hbV:bb < (grow (redrawn wr dq) osq).heap.size:=Nat.lt_of_lt_of_le hbv hBV.size
           have hAoV:AtsAt (grow (redrawn wr dq) osq) g 0 o:=(uh HAo).below hBV (uh Hg)
           have hgV:g < (grow (redrawn wr dq) osq).heap.size:=Nat.lt_of_lt_of_le (uh Hg) hBV.size
           generalize grow (redrawn wr dq) osq=V0 at *
           obtain ⟨g0,g1⟩:=hAV m x (uh Hx)
           have BV:=hide (below_sub (below_sub (uh Hbel) (uh B2)) (below_sub (uh Hbel2) hBV))
           clear hBV
           obtain ⟨pd,hpd⟩:∃ pd:Option Addr,pd=if cp=kk then some ⟨g,0,none⟩ else some ⟨g,kk * 2,none⟩:=⟨_,rfl⟩
           have HSt:Hid (∀ V,Below V0.heap.size V0 V->SrcK encA 2 V (some ⟨g,0,none⟩) cp (o.take kk)):=hide (fun V hv=>SrcK.ofA (fun h=>by cases h) (fun _=>⟨g,0,rfl,Nat.lt_of_lt_of_le hgV hv.size,(hAoV.below hv hgV).take kk⟩))
           have HSd:Hid (∀ V,Below V0.heap.size V0 V->SrcK encA 2 V pd (cp - kk) (o.drop kk)):=hide (fun V hv=>SrcK.ofA (fun h=>by rw [hpd] at h;split at h <;> cases h) (fun h0=>by
            have h1:¬ cp=kk:=by first | (simp at h0;done) | (simp at h0;omega)
            exact ⟨g,kk * 2,by rw [hpd,if_neg h1],Nat.lt_of_lt_of_le hgV hv.size,by simpa using (hAoV.below hv hgV).drop kk⟩))
           have Hpd:=hide hpd
           have Hlen:Hid (kk + 1 + (o.length - kk)=o.length + 1):=hide (by omega)
           clear hpd hAoV hgV z0 y0 y1
           go_wp2
           go_region_held3 (fun w'=>w'.cell? ⟨bb,off + m * 2,none⟩=some (.string x.1)/\w'.cell? ⟨bb,off + m * 2 + 1,none⟩=some (.int .i64 x.2)) (first | go_keep | exact ⟨(hb10'.cell hbV).trans g0,(hb10'.cell hbV).trans g1⟩ | exact ⟨(hb9'.cell hbV).trans g0,(hb9'.cell hbV).trans g1⟩ | exact ⟨(hb8'.cell hbV).trans g0,(hb8'.cell hbV).trans g1⟩) ((first
            | (refine step_app rowA (by rfl) (.tmp 69) (.tmp 72) (by rfl) V0.heap.size (some ⟨V0.heap.size,0,none⟩) 0 [] (some ⟨g,0,none⟩) cp (o.take kk) 0 kk kk rfl (by first | (simp;done) | (simp;omega)) (by simp) (by rfl) (by rfl) (by first | exact OwnK.made _ _ (Nat.le_refl _) | exact (OwnK.made _ _ (Nat.le_refl _)).below (by repeat (first | exact Below.refl _ _ | refine Below.drew ?_ | refine Below.alloc ?_ (by first | exact Nat.le_refl _ | (simp;done) | (simp;omega)) _))) (uh HSt _ (by repeat (first | exact Below.refl _ _ | refine Below.drew ?_ | refine Below.alloc ?_ (by first | exact Nat.le_refl _ | (simp;done) | (simp;omega)) _))) (by unfold maxLen;omega) (by omega) (by first | (simp;done) | (simp;omega)) ?_;intro q8 cp8 w8 hown8 hb8 _ hg8;have hb8':Below V0.heap.size V0 w8:=Below.trans (by repeat (first | exact Below.refl _ _ | refine Below.drew ?_ | refine Below.alloc ?_ (by first | exact Nat.le_refl _ | (simp;done) | (simp;omega)) _)) hb8)
            | (refine step_app rowA (by rfl) (.tmp 69) (.tmp 72) (by rfl) V0.heap.size (some ⟨V0.heap.size + 1,0,none⟩) 0 [] (some ⟨g,0,none⟩) cp (o.take kk) 0 kk kk rfl (by first | (simp;done) | (simp;omega)) (by simp) (by rfl) (by rfl) (OwnK.made_at _ _ (V0.alloc (.cells #[.string x.1,.int .i64 x.2] 62)) (by simp) (by simp)) (uh HSt _ (by repeat (first | exact Below.refl _ _ | refine Below.drew ?_ | refine Below.alloc ?_ (by first | exact Nat.le_refl _ | (simp;done) | (simp;omega)) _))) (by unfold maxLen;omega) (by omega) (by first | (simp;done) | (simp;omega)) ?_;intro q8 cp8 w8 hown8 hb8 _ hg8;have hb8':Below V0.heap.size V0 w8:=Below.trans (by repeat (first | exact Below.refl _ _ | refine Below.drew ?_ | refine Below.alloc ?_ (by first | exact Nat.le_refl _ | (simp;done) | (simp;omega)) _)) hb8)
            | (refine step_app rowA (by rfl) (.tmp 73) (.tmp 78) (by rfl) V0.heap.size q8 cp8 (o.take kk) (some ⟨w8.heap.size,0,none⟩) 1 [x] kk 1 (kk + 1) (by first | (simp;done) | (simp;omega)) rfl rfl (by rfl) (by rfl) (hown8.below (by repeat (first | exact Below.refl _ _ | refine Below.drew ?_ | refine Below.alloc ?_ (by first | exact Nat.le_refl _ | (simp;done) | (simp;omega)) _))) (SrcK.ofA (fun h=>by cases h) (AtsOf.one (by simp) (by go_simp) (by go_simp))) (by unfold maxLen;omega) (by omega) (by have:=hb8'.size;simp;omega) ?_;intro q9 cp9 w9 hown9 hb9 _ _;have hb9':Below V0.heap.size V0 w9:=(hb8'.trans (by repeat (first | exact Below.refl _ _ | refine Below.drew ?_ | refine Below.alloc ?_ (by first | exact Nat.le_refl _ | exact hb8'.size | (have:=hb8'.size;simp;omega)) _))).trans hb9)
            | (refine step_app rowA (by rfl) (.tmp 73) (.tmp 78) (by rfl) V0.heap.size q8 cp8 (o.take kk) (some ⟨V0.heap.size + 1,0,none⟩) 1 [x] kk 1 (kk + 1) (by first | (simp;done) | (simp;omega)) rfl rfl (by rfl) (by rfl) (hown8.below (by repeat (first | exact Below.refl _ _ | refine Below.drew ?_ | refine Below.alloc ?_ (by first | exact Nat.le_refl _ | (simp;done) | (simp;omega)) _))) (SrcK.ofA (fun h=>by cases h) (AtsOf.one (by have:=hg8.size;simp at this;omega) (by rw [hg8.cell_far _ (by first | (simp;done) | (simp;omega)) (by simp [Value.ownBlock])];go_simp) (by rw [hg8.cell_far _ (by first | (simp;done) | (simp;omega)) (by simp [Value.ownBlock])];go_simp))) (by unfold maxLen;omega) (by omega) (by have:=hb8'.size;simp;omega) ?_;intro q9 cp9 w9 hown9 hb9 _ _;have hb9':Below V0.heap.size V0 w9:=(hb8'.trans (by repeat (first | exact Below.refl _ _ | refine Below.drew ?_ | refine Below.alloc ?_ (by first | exact Nat.le_refl _ | exact hb8'.size | (have:=hb8'.size;simp;omega)) _))).trans hb9)
            | (refine step_app rowA (by rfl) (.tmp 73) (.tmp 78) (by rfl) V0.heap.size q8 cp8 (o.take kk) (some ⟨V0.heap.size,0,none⟩) 1 [x] kk 1 (kk + 1) (by first | (simp;done) | (simp;omega)) rfl rfl (by rfl) (by rfl) (hown8.below (by repeat (first | exact Below.refl _ _ | refine Below.drew ?_ | refine Below.alloc ?_ (by first | exact Nat.le_refl _ | (simp;done) | (simp;omega)) _))) (SrcK.ofA (fun h=>by cases h) (AtsOf.one (by have:=hg8.size;simp at this;omega) (by rw [hg8.cell_far _ (by first | (simp;done) | (simp;omega)) (by simp [Value.ownBlock])];go_simp) (by rw [hg8.cell_far _ (by first | (simp;done) | (simp;omega)) (by simp [Value.ownBlock])];go_simp))) (by unfold maxLen;omega) (by omega) (by have:=hb8'.size;simp;omega) ?_;intro q9 cp9 w9 hown9 hb9 _ _;have hb9':Below V0.heap.size V0 w9:=(hb8'.trans (by repeat (first | exact Below.refl _ _ | refine Below.drew ?_ | refine Below.alloc ?_ (by first | exact Nat.le_refl _ | exact hb8'.size | (have:=hb8'.size;simp;omega)) _))).trans hb9)
            | (refine step_app rowA (by rfl) (.tmp 79) (.tmp 82) (by rfl) V0.heap.size q9 cp9 ((o.take kk) ++ [x]) pd (cp - kk) (o.drop kk) (kk + 1) (o.length - kk) (o.length + 1) (by first | (simp;done) | (simp;omega)) (by simp) (uh Hlen) (by rfl) (by rw [uh Hpd];rfl) hown9 (uh HSd _ hb9') (by unfold maxLen;omega) (by omega) (by have:=hb9'.size;simpa using this) ?_;intro q10 cp10 w10 hown10 hb10 _ _;have hb10':=hb9'.trans hb10)))
           all_goals
            have HNx:Hid (NewA w.heap.size w10 q10 cp10 (putAt o kk x)):=hide (OwnK.newA (hown10.mono (uh BV).size))
            have Hb10:=hide (below_sub (uh BV) hb10')
            have Hpp:Hid ((putAt o kk x).Perm (l.take (m + 1))):=hide (by rw [take_snoc (uh Hx)];exact (put_perm o kk x).trans ((uh Hp).append_right [x]))
            have Hss:Hid (Strict nmA (putAt o kk x)):=hide (put_strict (uh Hs) (take_less (uh Hlo)) (drop_more (uh Hs) (uh Hne) (uh Hnl)))
            have Hoo:Hid (∀ y ∈ putAt o kk x,atOk y=true):=hide (fun y hy=>by
             rcases List.mem_append.1 ((put_perm o kk x).mem_iff.1 hy) with h | h
             ·exact uh Hok y h
             ·obtain rfl:y=x:=by simpa using h
              exact uh Hat)
            clear hown8 hown9 hown10 hb8 hb9 hb10 hb8' hb9' hb10' hg8 g0 g1 hAV hbV
            go_wp2
            go_roundw
            case rel=>exact ⟨m + 1,putAt o kk x,q10,cp10,by omega,by go_num,by rw [put_length],Hpp,Hss,HNx,Hoo,uh Hb10⟩
            case measure=>simp [intOf];omega
         ·have kk5:¬ (kk:Int) < (o.length:Int):=by omega
          have Hnl:Hid (∀ y,o[kk]? = some y->Op.bytesLess (nmA y) (nmA x)=false):=hide (fun z hz=>absurd (List.getElem?_eq_some_iff.1 hz).1 hkl)
          clear hkd hnm e24 e18
          go_wp2
          refine wp_region_quiet_below (by assumption) (by kernel_rfl) ?_
          repeat (go_big_quiet_step (fail))
          refine wpQuiet_nil ?_
          intro _ hw'
          obtain ⟨⟨dq,osq⟩,hw''⟩:=hw'
          subst hw''
          have hBV:=below_regrown wr dq osq
          have hAV:=hAtv.below hBV hbv
          have hbV:bb < (grow (redrawn wr dq) osq).heap.size:=Nat.lt_of_lt_of_le hbv hBV.size
          have hAoV:AtsAt (grow (redrawn wr dq) osq) g 0 o:=(uh HAo).below hBV (uh Hg)
          have hgV:g < (grow (redrawn wr dq) osq).heap.size:=Nat.lt_of_lt_of_le (uh Hg) hBV.size
          generalize grow (redrawn wr dq) osq=V0 at *
          obtain ⟨g0,g1⟩:=hAV m x (uh Hx)
          have BV:=hide (below_sub (below_sub (uh Hbel) (uh B2)) (below_sub (uh Hbel2) hBV))
          clear hBV
          obtain ⟨pd,hpd⟩:∃ pd:Option Addr,pd=if cp=kk then some ⟨g,0,none⟩ else some ⟨g,kk * 2,none⟩:=⟨_,rfl⟩
          have HSt:Hid (∀ V,Below V0.heap.size V0 V->SrcK encA 2 V (some ⟨g,0,none⟩) cp (o.take kk)):=hide (fun V hv=>SrcK.ofA (fun h=>by cases h) (fun _=>⟨g,0,rfl,Nat.lt_of_lt_of_le hgV hv.size,(hAoV.below hv hgV).take kk⟩))
          have HSd:Hid (∀ V,Below V0.heap.size V0 V->SrcK encA 2 V pd (cp - kk) (o.drop kk)):=hide (fun V hv=>SrcK.ofA (fun h=>by rw [hpd] at h;split at h <;> cases h) (fun h0=>by
           have h1:¬ cp=kk:=by first | (simp at h0;done) | (simp at h0;omega)
           exact ⟨g,kk * 2,by rw [hpd,if_neg h1],Nat.lt_of_lt_of_le hgV hv.size,by simpa using (hAoV.below hv hgV).drop kk⟩))
          have Hpd:=hide hpd
          have Hlen:Hid (kk + 1 + (o.length - kk)=o.length + 1):=hide (by omega)
          clear hpd hAoV hgV y0 y1
          go_wp2
          go_region_held3 (fun w'=>w'.cell? ⟨bb,off + m * 2,none⟩=some (.string x.1)/\w'.cell? ⟨bb,off + m * 2 + 1,none⟩=some (.int .i64 x.2)) (first | go_keep | exact ⟨(hb10'.cell hbV).trans g0,(hb10'.cell hbV).trans g1⟩ | exact ⟨(hb9'.cell hbV).trans g0,(hb9'.cell hbV).trans g1⟩ | exact ⟨(hb8'.cell hbV).trans g0,(hb8'.cell hbV).trans g1⟩) ((first
           | (refine step_app rowA (by rfl) (.tmp 69) (.tmp 72) (by rfl) V0.heap.size (some ⟨V0.heap.size,0,none⟩) 0 [] (some ⟨g,0,none⟩) cp (o.take kk) 0 kk kk rfl (by first | (simp;done) | (simp;omega)) (by simp) (by rfl) (by rfl) (by first | exact OwnK.made _ _ (Nat.le_refl _) | exact (OwnK.made _ _ (Nat.le_refl _)).below (by repeat (first | exact Below.refl _ _ | refine Below.drew ?_ | refine Below.alloc ?_ (by first | exact Nat.le_refl _ | (simp;done) | (simp;omega)) _))) (uh HSt _ (by repeat (first | exact Below.refl _ _ | refine Below.drew ?_ | refine Below.alloc ?_ (by first | exact Nat.le_refl _ | (simp;done) | (simp;omega)) _))) (by unfold maxLen;omega) (by omega) (by first | (simp;done) | (simp;omega)) ?_;intro q8 cp8 w8 hown8 hb8 _ hg8;have hb8':Below V0.heap.size V0 w8:=Below.trans (by repeat (first | exact Below.refl _ _ | refine Below.drew ?_ | refine Below.alloc ?_ (by first | exact Nat.le_refl _ | (simp;done) | (simp;omega)) _)) hb8)
           | (refine step_app rowA (by rfl) (.tmp 69) (.tmp 72) (by rfl) V0.heap.size (some ⟨V0.heap.size + 1,0,none⟩) 0 [] (some ⟨g,0,none⟩) cp (o.take kk) 0 kk kk rfl (by first | (simp;done) | (simp;omega)) (by simp) (by rfl) (by rfl) (OwnK.made_at _ _ (V0.alloc (.cells #[.string x.1,.int .i64 x.2] 62)) (by simp) (by simp)) (uh HSt _ (by repeat (first | exact Below.refl _ _ | refine Below.drew ?_ | refine Below.alloc ?_ (by first | exact Nat.le_refl _ | (simp;done) | (simp;omega)) _))) (by unfold maxLen;omega) (by omega) (by first | (simp;done) | (simp;omega)) ?_;intro q8 cp8 w8 hown8 hb8 _ hg8;have hb8':Below V0.heap.size V0 w8:=Below.trans (by repeat (first | exact Below.refl _ _ | refine Below.drew ?_ | refine Below.alloc ?_ (by first | exact Nat.le_refl _ | (simp;done) | (simp;omega)) _)) hb8)
           | (refine step_app rowA (by rfl) (.tmp 73) (.tmp 78) (by rfl) V0.heap.size q8 cp8 (o.take kk) (some ⟨w8.heap.size,0,none⟩) 1 [x] kk 1 (kk + 1) (by first | (simp;done) | (simp;omega)) rfl rfl (by rfl) (by rfl) (hown8.below (by repeat (first | exact Below.refl _ _ | refine Below.drew ?_ | refine Below.alloc ?_ (by first | exact Nat.le_refl _ | (simp;done) | (simp;omega)) _))) (SrcK.ofA (fun h=>by cases h) (AtsOf.one (by simp) (by go_simp) (by go_simp))) (by unfold maxLen;omega) (by omega) (by have:=hb8'.size;simp;omega) ?_;intro q9 cp9 w9 hown9 hb9 _ _;have hb9':Below V0.heap.size V0 w9:=(hb8'.trans (by repeat (first | exact Below.refl _ _ | refine Below.drew ?_ | refine Below.alloc ?_ (by first | exact Nat.le_refl _ | exact hb8'.size | (have:=hb8'.size;simp;omega)) _))).trans hb9)
           | (refine step_app rowA (by rfl) (.tmp 73) (.tmp 78) (by rfl) V0.heap.size q8 cp8 (o.take kk) (some ⟨V0.heap.size + 1,0,none⟩) 1 [x] kk 1 (kk + 1) (by first | (simp;done) | (simp;omega)) rfl rfl (by rfl) (by rfl) (hown8.below (by repeat (first | exact Below.refl _ _ | refine Below.drew ?_ | refine Below.alloc ?_ (by first | exact Nat.le_refl _ | (simp;done) | (simp;omega)) _))) (SrcK.ofA (fun h=>by cases h) (AtsOf.one (by have:=hg8.size;simp at this;omega) (by rw [hg8.cell_far _ (by first | (simp;done) | (simp;omega)) (by simp [Value.ownBlock])];go_simp) (by rw [hg8.cell_far _ (by first | (simp;done) | (simp;omega)) (by simp [Value.ownBlock])];go_simp))) (by unfold maxLen;omega) (by omega) (by have:=hb8'.size;simp;omega) ?_;intro q9 cp9 w9 hown9 hb9 _ _;have hb9':Below V0.heap.size V0 w9:=(hb8'.trans (by repeat (first | exact Below.refl _ _ | refine Below.drew ?_ | refine Below.alloc ?_ (by first | exact Nat.le_refl _ | exact hb8'.size | (have:=hb8'.size;simp;omega)) _))).trans hb9)
           | (refine step_app rowA (by rfl) (.tmp 73) (.tmp 78) (by rfl) V0.heap.size q8 cp8 (o.take kk) (some ⟨V0.heap.size,0,none⟩) 1 [x] kk 1 (kk + 1) (by first | (simp;done) | (simp;omega)) rfl rfl (by rfl) (by rfl) (hown8.below (by repeat (first | exact Below.refl _ _ | refine Below.drew ?_ | refine Below.alloc ?_ (by first | exact Nat.le_refl _ | (simp;done) | (simp;omega)) _))) (SrcK.ofA (fun h=>by cases h) (AtsOf.one (by have:=hg8.size;simp at this;omega) (by rw [hg8.cell_far _ (by first | (simp;done) | (simp;omega)) (by simp [Value.ownBlock])];go_simp) (by rw [hg8.cell_far _ (by first | (simp;done) | (simp;omega)) (by simp [Value.ownBlock])];go_simp))) (by unfold maxLen;omega) (by omega) (by have:=hb8'.size;simp;omega) ?_;intro q9 cp9 w9 hown9 hb9 _ _;have hb9':Below V0.heap.size V0 w9:=(hb8'.trans (by repeat (first | exact Below.refl _ _ | refine Below.drew ?_ | refine Below.alloc ?_ (by first | exact Nat.le_refl _ | exact hb8'.size | (have:=hb8'.size;simp;omega)) _))).trans hb9)
           | (refine step_app rowA (by rfl) (.tmp 79) (.tmp 82) (by rfl) V0.heap.size q9 cp9 ((o.take kk) ++ [x]) pd (cp - kk) (o.drop kk) (kk + 1) (o.length - kk) (o.length + 1) (by first | (simp;done) | (simp;omega)) (by simp) (uh Hlen) (by rfl) (by rw [uh Hpd];rfl) hown9 (uh HSd _ hb9') (by unfold maxLen;omega) (by omega) (by have:=hb9'.size;simpa using this) ?_;intro q10 cp10 w10 hown10 hb10 _ _;have hb10':=hb9'.trans hb10)))
          all_goals
           have HNx:Hid (NewA w.heap.size w10 q10 cp10 (putAt o kk x)):=hide (OwnK.newA (hown10.mono (uh BV).size))
           have Hb10:=hide (below_sub (uh BV) hb10')
           have Hpp:Hid ((putAt o kk x).Perm (l.take (m + 1))):=hide (by rw [take_snoc (uh Hx)];exact (put_perm o kk x).trans ((uh Hp).append_right [x]))
           have Hss:Hid (Strict nmA (putAt o kk x)):=hide (put_strict (uh Hs) (take_less (uh Hlo)) (drop_more (uh Hs) (uh Hne) (uh Hnl)))
           have Hoo:Hid (∀ y ∈ putAt o kk x,atOk y=true):=hide (fun y hy=>by
            rcases List.mem_append.1 ((put_perm o kk x).mem_iff.1 hy) with h | h
            ·exact uh Hok y h
            ·obtain rfl:y=x:=by simpa using h
             exact uh Hat)
           clear hown8 hown9 hown10 hb8 hb9 hb10 hb8' hb9' hb10' hg8 g0 g1 hAV hbV
           go_wp2
           go_roundw
           case rel=>exact ⟨m + 1,putAt o kk x,q10,cp10,by omega,by go_num,by rw [put_length],Hpp,Hss,HNx,Hoo,uh Hb10⟩
           case measure=>simp [intOf];omega
      ·have hr:(kindOf o x.1 != 0)=true:=by simpa using hz
       have Hno:Hid (¬ (l.all atOk=true/\(l.map nmA).Nodup)):=hide (by
        intro hh
        refine hz ((kind_zero (uh Hok)).2 fun y hy he=>?_)
        exact not_dup (uh Hp) (uh Hx) hy he hh)
       clear hz
       generalize kindOf o x.1=r at hr hkd
       go_wp2_with (first
        | (go_at_call 60;refine (hnm _).mono ?_;rintro e w1 ⟨rfl,rfl⟩)
        | (go_at_call 61;refine (hkd _ (Below.refl _ _)).mono ?_;rintro e w2 ⟨rfl,b2⟩;have B2:=hide b2;clear b2))
       go_ret2
       exact ⟨Or.inr (Or.inl ⟨uh H64,uh Hno,rfl⟩),below_sub (uh Hbel) (uh B2)⟩
     ·by_cases hx2:x.2=2
      ·have n1:(x.2 != 1)=true:=by simpa using hx1
       have n2:(x.2 != 2)=false:=by simp [hx2]
       have hkd:=fun (V:World) (hv:Below wr.heap.size wr V)=>refKind_any q cp o x.1 V (by omega) ((uh HN).of.below hv)
       have Hat:Hid (atOk x=true):=hide (by unfold atOk;rw [hn];rw [Bool.true_and,Bool.or_eq_true];right;simp [hx2])
       clear hn hx1 hx2
       by_cases hz:kindOf o x.1=0
       ·rw [hz] at hkd
        have Hne:Hid (∀ y ∈ o,nmA y ≠ nmA x):=hide ((kind_zero (uh Hok)).1 hz)
        clear hz
        go_wp2_with (first
         | (go_at_call 60;refine (hnm _).mono ?_;rintro e w1 ⟨rfl,rfl⟩)
         | (go_at_call 61;refine (hkd _ (Below.refl _ _)).mono ?_;rintro e w2 ⟨rfl,b2⟩;have B2:=hide b2;clear b2))
        go_loopw [6] (fun kv wv=>∃ kk:Nat,kk<=o.length/\kv=.int .i64 kk/\Hid (∀ (j:Nat) (y:ByteArray × Int),j < kk->o[j]? = some y->Op.bytesLess (nmA y) (nmA x)=true)/\Below w2.heap.size w2 wv) (fun kv _=>o.length - (intOf kv).toNat)
        case atStart=>exact ⟨0,by omega,rfl,hide (fun j y hj=>by omega),Below.refl _ _⟩
        case round =>
         obtain ⟨kk,hkk,rfl,Hlo,hbel2⟩:=hrel
         have hAtv:=(uh HAt).below (below_sub (uh B2) hbel2) (uh Hbb)
         have hbv:bb < wr.heap.size:=by have:=(below_sub (uh B2) hbel2).size;have:=uh Hbb;omega
         have Hbel2:=hide hbel2
         rcases (uh HN).below (below_sub (uh B2) hbel2) with ⟨rfl,rfl,rfl⟩ | ⟨g,rfl,hB,hg,hH,hcp,hcm⟩
         ·obtain rfl:kk=0:=by simpa using hkk
          have Hnl:Hid (∀ y,([]:List (ByteArray × Int))[0]? = some y->Op.bytesLess (nmA y) (nmA x)=false):=hide (fun y hy=>by cases hy)
          clear hkd y0 y1 hnm e24 e18 hkk hom
          simp only [List.length_nil,Int.natCast_zero]
          go_wp2
          refine wp_region_quiet_below (by assumption) (by kernel_rfl) ?_
          repeat (go_big_quiet_step (fail))
          refine wpQuiet_nil ?_
          intro _ hw'
          obtain ⟨⟨dq,osq⟩,hw''⟩:=hw'
          subst hw''
          have hBV:=below_regrown wr dq osq
          have hAV:=hAtv.below hBV hbv
          have hbV:bb < (grow (redrawn wr dq) osq).heap.size:=Nat.lt_of_lt_of_le hbv hBV.size
          generalize grow (redrawn wr dq) osq=V0 at *
          obtain ⟨g0,g1⟩:=hAV m x (uh Hx)
          have BV:=hide (below_sub (below_sub (uh Hbel) (uh B2)) (below_sub (uh Hbel2) hBV))
          clear hBV
          go_wp2
          go_region_held3 (fun w'=>w'.cell? ⟨bb,off + m * 2,none⟩=some (.string x.1)/\w'.cell? ⟨bb,off + m * 2 + 1,none⟩=some (.int .i64 x.2)) (first | go_keep | exact ⟨(hb10'.cell hbV).trans g0,(hb10'.cell hbV).trans g1⟩ | exact ⟨(hb9'.cell hbV).trans g0,(hb9'.cell hbV).trans g1⟩ | exact ⟨(hb8'.cell hbV).trans g0,(hb8'.cell hbV).trans g1⟩) ((first
           | (refine step_app rowA (by rfl) (.tmp 69) (.tmp 72) (by rfl) V0.heap.size (some ⟨V0.heap.size,0,none⟩) 0 [] none 0 [] 0 0 0 rfl rfl (by simp) (by rfl) (by rfl) (by first | exact OwnK.made _ _ (Nat.le_refl _) | exact (OwnK.made _ _ (Nat.le_refl _)).below (by repeat (first | exact Below.refl _ _ | refine Below.drew ?_ | refine Below.alloc ?_ (by first | exact Nat.le_refl _ | (simp;done) | (simp;omega)) _))) ((fun V (_:Below V0.heap.size V0 V)=>SrcK.ofA (w:=V) (fun _=>⟨rfl,rfl⟩) (AtsOf.nil _ _)) _ (by repeat (first | exact Below.refl _ _ | refine Below.drew ?_ | refine Below.alloc ?_ (by first | exact Nat.le_refl _ | (simp;done) | (simp;omega)) _))) (by unfold maxLen;omega) (by omega) (by first | (simp;done) | (simp;omega)) ?_;intro q8 cp8 w8 hown8 hb8 _ hg8;have hb8':Below V0.heap.size V0 w8:=Below.trans (by repeat (first | exact Below.refl _ _ | refine Below.drew ?_ | refine Below.alloc ?_ (by first | exact Nat.le_refl _ | (simp;done) | (simp;omega)) _)) hb8)
           | (refine step_app rowA (by rfl) (.tmp 69) (.tmp 72) (by rfl) V0.heap.size (some ⟨V0.heap.size + 1,0,none⟩) 0 [] none 0 [] 0 0 0 rfl rfl (by simp) (by rfl) (by rfl) (OwnK.made_at _ _ (V0.alloc (.cells #[.string x.1,.int .i64 x.2] 62)) (by simp) (by simp)) ((fun V (_:Below V0.heap.size V0 V)=>SrcK.ofA (w:=V) (fun _=>⟨rfl,rfl⟩) (AtsOf.nil _ _)) _ (by repeat (first | exact Below.refl _ _ | refine Below.drew ?_ | refine Below.alloc ?_ (by first | exact Nat.le_refl _ | (simp;done) | (simp;omega)) _))) (by unfold maxLen;omega) (by omega) (by first | (simp;done) | (simp;omega)) ?_;intro q8 cp8 w8 hown8 hb8 _ hg8;have hb8':Below V0.heap.size V0 w8:=Below.trans (by repeat (first | exact Below.refl _ _ | refine Below.drew ?_ | refine Below.alloc ?_ (by first | exact Nat.le_refl _ | (simp;done) | (simp;omega)) _)) hb8)
           | (refine step_app rowA (by rfl) (.tmp 73) (.tmp 78) (by rfl) V0.heap.size q8 cp8 [] (some ⟨w8.heap.size,0,none⟩) 1 [x] 0 1 (0 + 1) rfl rfl rfl (by rfl) (by rfl) (hown8.below (by repeat (first | exact Below.refl _ _ | refine Below.drew ?_ | refine Below.alloc ?_ (by first | exact Nat.le_refl _ | (simp;done) | (simp;omega)) _))) (SrcK.ofA (fun h=>by cases h) (AtsOf.one (by simp) (by go_simp) (by go_simp))) (by unfold maxLen;omega) (by omega) (by have:=hb8'.size;simp;omega) ?_;intro q9 cp9 w9 hown9 hb9 _ _;have hb9':Below V0.heap.size V0 w9:=(hb8'.trans (by repeat (first | exact Below.refl _ _ | refine Below.drew ?_ | refine Below.alloc ?_ (by first | exact Nat.le_refl _ | exact hb8'.size | (have:=hb8'.size;simp;omega)) _))).trans hb9)
           | (refine step_app rowA (by rfl) (.tmp 73) (.tmp 78) (by rfl) V0.heap.size q8 cp8 [] (some ⟨V0.heap.size + 1,0,none⟩) 1 [x] 0 1 (0 + 1) rfl rfl rfl (by rfl) (by rfl) (hown8.below (by repeat (first | exact Below.refl _ _ | refine Below.drew ?_ | refine Below.alloc ?_ (by first | exact Nat.le_refl _ | (simp;done) | (simp;omega)) _))) (SrcK.ofA (fun h=>by cases h) (AtsOf.one (by have:=hg8.size;simp at this;omega) (by rw [hg8.cell_far _ (by first | (simp;done) | (simp;omega)) (by simp [Value.ownBlock])];go_simp) (by rw [hg8.cell_far _ (by first | (simp;done) | (simp;omega)) (by simp [Value.ownBlock])];go_simp))) (by unfold maxLen;omega) (by omega) (by have:=hb8'.size;simp;omega) ?_;intro q9 cp9 w9 hown9 hb9 _ _;have hb9':Below V0.heap.size V0 w9:=(hb8'.trans (by repeat (first | exact Below.refl _ _ | refine Below.drew ?_ | refine Below.alloc ?_ (by first | exact Nat.le_refl _ | exact hb8'.size | (have:=hb8'.size;simp;omega)) _))).trans hb9)
           | (refine step_app rowA (by rfl) (.tmp 73) (.tmp 78) (by rfl) V0.heap.size q8 cp8 [] (some ⟨V0.heap.size,0,none⟩) 1 [x] 0 1 (0 + 1) rfl rfl rfl (by rfl) (by rfl) (hown8.below (by repeat (first | exact Below.refl _ _ | refine Below.drew ?_ | refine Below.alloc ?_ (by first | exact Nat.le_refl _ | (simp;done) | (simp;omega)) _))) (SrcK.ofA (fun h=>by cases h) (AtsOf.one (by have:=hg8.size;simp at this;omega) (by rw [hg8.cell_far _ (by first | (simp;done) | (simp;omega)) (by simp [Value.ownBlock])];go_simp) (by rw [hg8.cell_far _ (by first | (simp;done) | (simp;omega)) (by simp [Value.ownBlock])];go_simp))) (by unfold maxLen;omega) (by omega) (by have:=hb8'.size;simp;omega) ?_;intro q9 cp9 w9 hown9 hb9 _ _;have hb9':Below V0.heap.size V0 w9:=(hb8'.trans (by repeat (first | exact Below.refl _ _ | refine Below.drew ?_ | refine Below.alloc ?_ (by first | exact Nat.le_refl _ | exact hb8'.size | (have:=hb8'.size;simp;omega)) _))).trans hb9)
           | (refine step_app rowA (by rfl) (.tmp 79) (.tmp 82) (by rfl) V0.heap.size q9 cp9 ([] ++ [x]) none 0 [] (0 + 1) 0 1 rfl (by simp) rfl (by rfl) (by rfl) hown9 ((fun V (_:Below V0.heap.size V0 V)=>SrcK.ofA (w:=V) (fun _=>⟨rfl,rfl⟩) (AtsOf.nil _ _)) _ hb9') (by unfold maxLen;omega) (by omega) (by have:=hb9'.size;simpa using this) ?_;intro q10 cp10 w10 hown10 hb10 _ _;have hb10':=hb9'.trans hb10)))
          all_goals
           have HNx:Hid (NewA w.heap.size w10 q10 cp10 (putAt [] 0 x)):=hide (OwnK.newA (hown10.mono (uh BV).size))
           have Hb10:=hide (below_sub (uh BV) hb10')
           have Hpp:Hid ((putAt [] 0 x).Perm (l.take (m + 1))):=hide (by rw [take_snoc (uh Hx)];exact (put_perm [] 0 x).trans ((uh Hp).append_right [x]))
           have Hss:Hid (Strict nmA (putAt [] 0 x)):=hide (put_strict (uh Hs) (take_less (uh Hlo)) (drop_more (uh Hs) (uh Hne) (uh Hnl)))
           have Hoo:Hid (∀ y ∈ putAt [] 0 x,atOk y=true):=hide (fun y hy=>by
            rcases List.mem_append.1 ((put_perm [] 0 x).mem_iff.1 hy) with h | h
            ·exact uh Hok y h
            ·obtain rfl:y=x:=by simpa using h
             exact uh Hat)
           clear hown8 hown9 hown10 hb8 hb9 hb10 hb8' hb9' hb10' hg8 g0 g1 hAV hbV
           go_wp2
           go_roundw
           case rel=>exact ⟨m + 1,putAt [] 0 x,q10,cp10,by omega,by go_num,by rw [put_length];rfl,Hpp,Hss,HNx,Hoo,uh Hb10⟩
           case measure=>simp [intOf];omega
         ·have hAo:AtsAt wr g 0 o:=AtsAt.of_holds hH
          have HAo:=hide hAo
          have Hg:=hide hg
          have kk0:(0:Int)<=(kk:Int):=by omega
          have kk1:(kk:Int)<=(o.length:Int):=by omega
          have kk2:(kk:Int)<=(cp:Int):=by omega
          have kk3:(o.length:Int)<=(cp:Int):=by omega
          have y0:∀ n os,(grow (redrawn wr n) os).cell? ⟨bb,off + m * 2,none⟩=some (.string x.1):=cell_regrown (hAtv m x (uh Hx)).1
          have y1:∀ n os,(grow (redrawn wr n) os).cell? ⟨bb,off + m * 2 + 1,none⟩=some (.int .i64 x.2):=cell_regrown (hAtv m x (uh Hx)).2
          clear hH hAo hg hB hbel2 HN
          by_cases hkl:kk < o.length
          ·obtain ⟨y,hy,-⟩:=get_at hkl
           have kk4:(kk:Int) < (o.length:Int):=by omega
           have z0:∀ n os,(grow (redrawn wr n) os).cell? ⟨g,kk * 2,none⟩=some (.string y.1):=cell_regrown (by simpa using ((uh HAo) kk y hy).1)
           have htx:=fun (V:World)=>texts_any y.1 x.1 V (name_small (atOk_name (uh Hok y (List.mem_of_getElem? hy))))
           have Hy:=hide hy
           clear hy
           by_cases hneg:cmpS y.1.toList x.1.toList < 0
           ·have Hlo2:Hid (∀ (j:Nat) (z:ByteArray × Int),j < kk + 1->o[j]? = some z->Op.bytesLess (nmA z) (nmA x)=true):=hide (fun j z hj hz=>by
             by_cases e:j=kk
             ·subst e
              obtain rfl:z=y:=Option.some.inj (hz.symm.trans (uh Hy))
              exact cmpS_neg.1 hneg
             ·exact uh Hlo j z (by omega) hz)
            generalize cmpS y.1.toList x.1.toList=r at htx hneg
            clear hkd hnm e24 e18
            go_wp2
            refine wp_region_quiet_below (by assumption) (by kernel_rfl) ?_
            repeat (go_big_quiet_step (first | (go_at_fn 62;refine Calls.regrown_of (htx _))))
            refine wpQuiet_nil ?_
            intro _ hw'
            obtain ⟨⟨dq,osq⟩,hw''⟩:=hw'
            subst hw''
            go_wp2
            go_roundw
            case rel=>exact ⟨kk + 1,by omega,by go_num,Hlo2,below_sub (uh Hbel2) (below_regrown _ _ _)⟩
            case measure=>simp [intOf];omega
           ·have hnb:Op.bytesLess (nmA y) (nmA x)=false:=by
             rw [Bool.eq_false_iff];intro h;exact hneg (cmpS_neg.2 h)
            generalize cmpS y.1.toList x.1.toList=r at htx hneg
            have Hnl:Hid (∀ y,o[kk]? = some y->Op.bytesLess (nmA y) (nmA x)=false):=hide (fun z hz=>by obtain rfl:z=y:=Option.some.inj (hz.symm.trans (uh Hy));exact hnb)
            clear hkd hnm e24 e18
            go_wp2
            refine wp_region_quiet_below (by assumption) (by kernel_rfl) ?_
            repeat (go_big_quiet_step (first | (go_at_fn 62;refine Calls.regrown_of (htx _))))
            refine wpQuiet_nil ?_
            intro _ hw'
            obtain ⟨⟨dq,osq⟩,hw''⟩:=hw'
            subst hw''
            have hBV:=below_regrown wr dq osq
            have hAV:=hAtv.below hBV hbv
            have hbV:bb < (grow (redrawn wr dq) osq).heap.size:=Nat.lt_of_lt_of_le hbv hBV.size
            have hAoV:AtsAt (grow (redrawn wr dq) osq) g 0 o:=(uh HAo).below hBV (uh Hg)
            have hgV:g < (grow (redrawn wr dq) osq).heap.size:=Nat.lt_of_lt_of_le (uh Hg) hBV.size
            generalize grow (redrawn wr dq) osq=V0 at *
            obtain ⟨g0,g1⟩:=hAV m x (uh Hx)
            have BV:=hide (below_sub (below_sub (uh Hbel) (uh B2)) (below_sub (uh Hbel2) hBV))
            clear hBV
            obtain ⟨pd,hpd⟩:∃ pd:Option Addr,pd=if cp=kk then some ⟨g,0,none⟩ else some ⟨g,kk * 2,none⟩:=⟨_,rfl⟩
            have HSt:Hid (∀ V,Below V0.heap.size V0 V->SrcK encA 2 V (some ⟨g,0,none⟩) cp (o.take kk)):=hide (fun V hv=>SrcK.ofA (fun h=>by cases h) (fun _=>⟨g,0,rfl,Nat.lt_of_lt_of_le hgV hv.size,(hAoV.below hv hgV).take kk⟩))
            have HSd:Hid (∀ V,Below V0.heap.size V0 V->SrcK encA 2 V pd (cp - kk) (o.drop kk)):=hide (fun V hv=>SrcK.ofA (fun h=>by rw [hpd] at h;split at h <;> cases h) (fun h0=>by
             have h1:¬ cp=kk:=by first | (simp at h0;done) | (simp at h0;omega)
             exact ⟨g,kk * 2,by rw [hpd,if_neg h1],Nat.lt_of_lt_of_le hgV hv.size,by simpa using (hAoV.below hv hgV).drop kk⟩))
            have Hpd:=hide hpd
            have Hlen:Hid (kk + 1 + (o.length - kk)=o.length + 1):=hide (by omega)
            clear hpd hAoV hgV z0 y0 y1
            go_wp2
            go_region_held3 (fun w'=>w'.cell? ⟨bb,off + m * 2,none⟩=some (.string x.1)/\w'.cell? ⟨bb,off + m * 2 + 1,none⟩=some (.int .i64 x.2)) (first | go_keep | exact ⟨(hb10'.cell hbV).trans g0,(hb10'.cell hbV).trans g1⟩ | exact ⟨(hb9'.cell hbV).trans g0,(hb9'.cell hbV).trans g1⟩ | exact ⟨(hb8'.cell hbV).trans g0,(hb8'.cell hbV).trans g1⟩) ((first
             | (refine step_app rowA (by rfl) (.tmp 69) (.tmp 72) (by rfl) V0.heap.size (some ⟨V0.heap.size,0,none⟩) 0 [] (some ⟨g,0,none⟩) cp (o.take kk) 0 kk kk rfl (by first | (simp;done) | (simp;omega)) (by simp) (by rfl) (by rfl) (by first | exact OwnK.made _ _ (Nat.le_refl _) | exact (OwnK.made _ _ (Nat.le_refl _)).below (by repeat (first | exact Below.refl _ _ | refine Below.drew ?_ | refine Below.alloc ?_ (by first | exact Nat.le_refl _ | (simp;done) | (simp;omega)) _))) (uh HSt _ (by repeat (first | exact Below.refl _ _ | refine Below.drew ?_ | refine Below.alloc ?_ (by first | exact Nat.le_refl _ | (simp;done) | (simp;omega)) _))) (by unfold maxLen;omega) (by omega) (by first | (simp;done) | (simp;omega)) ?_;intro q8 cp8 w8 hown8 hb8 _ hg8;have hb8':Below V0.heap.size V0 w8:=Below.trans (by repeat (first | exact Below.refl _ _ | refine Below.drew ?_ | refine Below.alloc ?_ (by first | exact Nat.le_refl _ | (simp;done) | (simp;omega)) _)) hb8)
             | (refine step_app rowA (by rfl) (.tmp 69) (.tmp 72) (by rfl) V0.heap.size (some ⟨V0.heap.size + 1,0,none⟩) 0 [] (some ⟨g,0,none⟩) cp (o.take kk) 0 kk kk rfl (by first | (simp;done) | (simp;omega)) (by simp) (by rfl) (by rfl) (OwnK.made_at _ _ (V0.alloc (.cells #[.string x.1,.int .i64 x.2] 62)) (by simp) (by simp)) (uh HSt _ (by repeat (first | exact Below.refl _ _ | refine Below.drew ?_ | refine Below.alloc ?_ (by first | exact Nat.le_refl _ | (simp;done) | (simp;omega)) _))) (by unfold maxLen;omega) (by omega) (by first | (simp;done) | (simp;omega)) ?_;intro q8 cp8 w8 hown8 hb8 _ hg8;have hb8':Below V0.heap.size V0 w8:=Below.trans (by repeat (first | exact Below.refl _ _ | refine Below.drew ?_ | refine Below.alloc ?_ (by first | exact Nat.le_refl _ | (simp;done) | (simp;omega)) _)) hb8)
             | (refine step_app rowA (by rfl) (.tmp 73) (.tmp 78) (by rfl) V0.heap.size q8 cp8 (o.take kk) (some ⟨w8.heap.size,0,none⟩) 1 [x] kk 1 (kk + 1) (by first | (simp;done) | (simp;omega)) rfl rfl (by rfl) (by rfl) (hown8.below (by repeat (first | exact Below.refl _ _ | refine Below.drew ?_ | refine Below.alloc ?_ (by first | exact Nat.le_refl _ | (simp;done) | (simp;omega)) _))) (SrcK.ofA (fun h=>by cases h) (AtsOf.one (by simp) (by go_simp) (by go_simp))) (by unfold maxLen;omega) (by omega) (by have:=hb8'.size;simp;omega) ?_;intro q9 cp9 w9 hown9 hb9 _ _;have hb9':Below V0.heap.size V0 w9:=(hb8'.trans (by repeat (first | exact Below.refl _ _ | refine Below.drew ?_ | refine Below.alloc ?_ (by first | exact Nat.le_refl _ | exact hb8'.size | (have:=hb8'.size;simp;omega)) _))).trans hb9)
             | (refine step_app rowA (by rfl) (.tmp 73) (.tmp 78) (by rfl) V0.heap.size q8 cp8 (o.take kk) (some ⟨V0.heap.size + 1,0,none⟩) 1 [x] kk 1 (kk + 1) (by first | (simp;done) | (simp;omega)) rfl rfl (by rfl) (by rfl) (hown8.below (by repeat (first | exact Below.refl _ _ | refine Below.drew ?_ | refine Below.alloc ?_ (by first | exact Nat.le_refl _ | (simp;done) | (simp;omega)) _))) (SrcK.ofA (fun h=>by cases h) (AtsOf.one (by have:=hg8.size;simp at this;omega) (by rw [hg8.cell_far _ (by first | (simp;done) | (simp;omega)) (by simp [Value.ownBlock])];go_simp) (by rw [hg8.cell_far _ (by first | (simp;done) | (simp;omega)) (by simp [Value.ownBlock])];go_simp))) (by unfold maxLen;omega) (by omega) (by have:=hb8'.size;simp;omega) ?_;intro q9 cp9 w9 hown9 hb9 _ _;have hb9':Below V0.heap.size V0 w9:=(hb8'.trans (by repeat (first | exact Below.refl _ _ | refine Below.drew ?_ | refine Below.alloc ?_ (by first | exact Nat.le_refl _ | exact hb8'.size | (have:=hb8'.size;simp;omega)) _))).trans hb9)
             | (refine step_app rowA (by rfl) (.tmp 73) (.tmp 78) (by rfl) V0.heap.size q8 cp8 (o.take kk) (some ⟨V0.heap.size,0,none⟩) 1 [x] kk 1 (kk + 1) (by first | (simp;done) | (simp;omega)) rfl rfl (by rfl) (by rfl) (hown8.below (by repeat (first | exact Below.refl _ _ | refine Below.drew ?_ | refine Below.alloc ?_ (by first | exact Nat.le_refl _ | (simp;done) | (simp;omega)) _))) (SrcK.ofA (fun h=>by cases h) (AtsOf.one (by have:=hg8.size;simp at this;omega) (by rw [hg8.cell_far _ (by first | (simp;done) | (simp;omega)) (by simp [Value.ownBlock])];go_simp) (by rw [hg8.cell_far _ (by first | (simp;done) | (simp;omega)) (by simp [Value.ownBlock])];go_simp))) (by unfold maxLen;omega) (by omega) (by have:=hb8'.size;simp;omega) ?_;intro q9 cp9 w9 hown9 hb9 _ _;have hb9':Below V0.heap.size V0 w9:=(hb8'.trans (by repeat (first | exact Below.refl _ _ | refine Below.drew ?_ | refine Below.alloc ?_ (by first | exact Nat.le_refl _ | exact hb8'.size | (have:=hb8'.size;simp;omega)) _))).trans hb9)
             | (refine step_app rowA (by rfl) (.tmp 79) (.tmp 82) (by rfl) V0.heap.size q9 cp9 ((o.take kk) ++ [x]) pd (cp - kk) (o.drop kk) (kk + 1) (o.length - kk) (o.length + 1) (by first | (simp;done) | (simp;omega)) (by simp) (uh Hlen) (by rfl) (by rw [uh Hpd];rfl) hown9 (uh HSd _ hb9') (by unfold maxLen;omega) (by omega) (by have:=hb9'.size;simpa using this) ?_;intro q10 cp10 w10 hown10 hb10 _ _;have hb10':=hb9'.trans hb10)))
            all_goals
             have HNx:Hid (NewA w.heap.size w10 q10 cp10 (putAt o kk x)):=hide (OwnK.newA (hown10.mono (uh BV).size))
             have Hb10:=hide (below_sub (uh BV) hb10')
             have Hpp:Hid ((putAt o kk x).Perm (l.take (m + 1))):=hide (by rw [take_snoc (uh Hx)];exact (put_perm o kk x).trans ((uh Hp).append_right [x]))
             have Hss:Hid (Strict nmA (putAt o kk x)):=hide (put_strict (uh Hs) (take_less (uh Hlo)) (drop_more (uh Hs) (uh Hne) (uh Hnl)))
             have Hoo:Hid (∀ y ∈ putAt o kk x,atOk y=true):=hide (fun y hy=>by
              rcases List.mem_append.1 ((put_perm o kk x).mem_iff.1 hy) with h | h
              ·exact uh Hok y h
              ·obtain rfl:y=x:=by simpa using h
               exact uh Hat)
             clear hown8 hown9 hown10 hb8 hb9 hb10 hb8' hb9' hb10' hg8 g0 g1 hAV hbV
             go_wp2
             go_roundw
             case rel=>exact ⟨m + 1,putAt o kk x,q10,cp10,by omega,by go_num,by rw [put_length],Hpp,Hss,HNx,Hoo,uh Hb10⟩
             case measure=>simp [intOf];omega
          ·have kk5:¬ (kk:Int) < (o.length:Int):=by omega
           have Hnl:Hid (∀ y,o[kk]? = some y->Op.bytesLess (nmA y) (nmA x)=false):=hide (fun z hz=>absurd (List.getElem?_eq_some_iff.1 hz).1 hkl)
           clear hkd hnm e24 e18
           go_wp2
           refine wp_region_quiet_below (by assumption) (by kernel_rfl) ?_
           repeat (go_big_quiet_step (fail))
           refine wpQuiet_nil ?_
           intro _ hw'
           obtain ⟨⟨dq,osq⟩,hw''⟩:=hw'
           subst hw''
           have hBV:=below_regrown wr dq osq
           have hAV:=hAtv.below hBV hbv
           have hbV:bb < (grow (redrawn wr dq) osq).heap.size:=Nat.lt_of_lt_of_le hbv hBV.size
           have hAoV:AtsAt (grow (redrawn wr dq) osq) g 0 o:=(uh HAo).below hBV (uh Hg)
           have hgV:g < (grow (redrawn wr dq) osq).heap.size:=Nat.lt_of_lt_of_le (uh Hg) hBV.size
           generalize grow (redrawn wr dq) osq=V0 at *
           obtain ⟨g0,g1⟩:=hAV m x (uh Hx)
           have BV:=hide (below_sub (below_sub (uh Hbel) (uh B2)) (below_sub (uh Hbel2) hBV))
           clear hBV
           obtain ⟨pd,hpd⟩:∃ pd:Option Addr,pd=if cp=kk then some ⟨g,0,none⟩ else some ⟨g,kk * 2,none⟩:=⟨_,rfl⟩
           have HSt:Hid (∀ V,Below V0.heap.size V0 V->SrcK encA 2 V (some ⟨g,0,none⟩) cp (o.take kk)):=hide (fun V hv=>SrcK.ofA (fun h=>by cases h) (fun _=>⟨g,0,rfl,Nat.lt_of_lt_of_le hgV hv.size,(hAoV.below hv hgV).take kk⟩))
           have HSd:Hid (∀ V,Below V0.heap.size V0 V->SrcK encA 2 V pd (cp - kk) (o.drop kk)):=hide (fun V hv=>SrcK.ofA (fun h=>by rw [hpd] at h;split at h <;> cases h) (fun h0=>by
            have h1:¬ cp=kk:=by first | (simp at h0;done) | (simp at h0;omega)
            exact ⟨g,kk * 2,by rw [hpd,if_neg h1],Nat.lt_of_lt_of_le hgV hv.size,by simpa using (hAoV.below hv hgV).drop kk⟩))
           have Hpd:=hide hpd
           have Hlen:Hid (kk + 1 + (o.length - kk)=o.length + 1):=hide (by omega)
           clear hpd hAoV hgV y0 y1
           go_wp2
           go_region_held3 (fun w'=>w'.cell? ⟨bb,off + m * 2,none⟩=some (.string x.1)/\w'.cell? ⟨bb,off + m * 2 + 1,none⟩=some (.int .i64 x.2)) (first | go_keep | exact ⟨(hb10'.cell hbV).trans g0,(hb10'.cell hbV).trans g1⟩ | exact ⟨(hb9'.cell hbV).trans g0,(hb9'.cell hbV).trans g1⟩ | exact ⟨(hb8'.cell hbV).trans g0,(hb8'.cell hbV).trans g1⟩) ((first
            | (refine step_app rowA (by rfl) (.tmp 69) (.tmp 72) (by rfl) V0.heap.size (some ⟨V0.heap.size,0,none⟩) 0 [] (some ⟨g,0,none⟩) cp (o.take kk) 0 kk kk rfl (by first | (simp;done) | (simp;omega)) (by simp) (by rfl) (by rfl) (by first | exact OwnK.made _ _ (Nat.le_refl _) | exact (OwnK.made _ _ (Nat.le_refl _)).below (by repeat (first | exact Below.refl _ _ | refine Below.drew ?_ | refine Below.alloc ?_ (by first | exact Nat.le_refl _ | (simp;done) | (simp;omega)) _))) (uh HSt _ (by repeat (first | exact Below.refl _ _ | refine Below.drew ?_ | refine Below.alloc ?_ (by first | exact Nat.le_refl _ | (simp;done) | (simp;omega)) _))) (by unfold maxLen;omega) (by omega) (by first | (simp;done) | (simp;omega)) ?_;intro q8 cp8 w8 hown8 hb8 _ hg8;have hb8':Below V0.heap.size V0 w8:=Below.trans (by repeat (first | exact Below.refl _ _ | refine Below.drew ?_ | refine Below.alloc ?_ (by first | exact Nat.le_refl _ | (simp;done) | (simp;omega)) _)) hb8)
            | (refine step_app rowA (by rfl) (.tmp 69) (.tmp 72) (by rfl) V0.heap.size (some ⟨V0.heap.size + 1,0,none⟩) 0 [] (some ⟨g,0,none⟩) cp (o.take kk) 0 kk kk rfl (by first | (simp;done) | (simp;omega)) (by simp) (by rfl) (by rfl) (OwnK.made_at _ _ (V0.alloc (.cells #[.string x.1,.int .i64 x.2] 62)) (by simp) (by simp)) (uh HSt _ (by repeat (first | exact Below.refl _ _ | refine Below.drew ?_ | refine Below.alloc ?_ (by first | exact Nat.le_refl _ | (simp;done) | (simp;omega)) _))) (by unfold maxLen;omega) (by omega) (by first | (simp;done) | (simp;omega)) ?_;intro q8 cp8 w8 hown8 hb8 _ hg8;have hb8':Below V0.heap.size V0 w8:=Below.trans (by repeat (first | exact Below.refl _ _ | refine Below.drew ?_ | refine Below.alloc ?_ (by first | exact Nat.le_refl _ | (simp;done) | (simp;omega)) _)) hb8)
            | (refine step_app rowA (by rfl) (.tmp 73) (.tmp 78) (by rfl) V0.heap.size q8 cp8 (o.take kk) (some ⟨w8.heap.size,0,none⟩) 1 [x] kk 1 (kk + 1) (by first | (simp;done) | (simp;omega)) rfl rfl (by rfl) (by rfl) (hown8.below (by repeat (first | exact Below.refl _ _ | refine Below.drew ?_ | refine Below.alloc ?_ (by first | exact Nat.le_refl _ | (simp;done) | (simp;omega)) _))) (SrcK.ofA (fun h=>by cases h) (AtsOf.one (by simp) (by go_simp) (by go_simp))) (by unfold maxLen;omega) (by omega) (by have:=hb8'.size;simp;omega) ?_;intro q9 cp9 w9 hown9 hb9 _ _;have hb9':Below V0.heap.size V0 w9:=(hb8'.trans (by repeat (first | exact Below.refl _ _ | refine Below.drew ?_ | refine Below.alloc ?_ (by first | exact Nat.le_refl _ | exact hb8'.size | (have:=hb8'.size;simp;omega)) _))).trans hb9)
            | (refine step_app rowA (by rfl) (.tmp 73) (.tmp 78) (by rfl) V0.heap.size q8 cp8 (o.take kk) (some ⟨V0.heap.size + 1,0,none⟩) 1 [x] kk 1 (kk + 1) (by first | (simp;done) | (simp;omega)) rfl rfl (by rfl) (by rfl) (hown8.below (by repeat (first | exact Below.refl _ _ | refine Below.drew ?_ | refine Below.alloc ?_ (by first | exact Nat.le_refl _ | (simp;done) | (simp;omega)) _))) (SrcK.ofA (fun h=>by cases h) (AtsOf.one (by have:=hg8.size;simp at this;omega) (by rw [hg8.cell_far _ (by first | (simp;done) | (simp;omega)) (by simp [Value.ownBlock])];go_simp) (by rw [hg8.cell_far _ (by first | (simp;done) | (simp;omega)) (by simp [Value.ownBlock])];go_simp))) (by unfold maxLen;omega) (by omega) (by have:=hb8'.size;simp;omega) ?_;intro q9 cp9 w9 hown9 hb9 _ _;have hb9':Below V0.heap.size V0 w9:=(hb8'.trans (by repeat (first | exact Below.refl _ _ | refine Below.drew ?_ | refine Below.alloc ?_ (by first | exact Nat.le_refl _ | exact hb8'.size | (have:=hb8'.size;simp;omega)) _))).trans hb9)
            | (refine step_app rowA (by rfl) (.tmp 73) (.tmp 78) (by rfl) V0.heap.size q8 cp8 (o.take kk) (some ⟨V0.heap.size,0,none⟩) 1 [x] kk 1 (kk + 1) (by first | (simp;done) | (simp;omega)) rfl rfl (by rfl) (by rfl) (hown8.below (by repeat (first | exact Below.refl _ _ | refine Below.drew ?_ | refine Below.alloc ?_ (by first | exact Nat.le_refl _ | (simp;done) | (simp;omega)) _))) (SrcK.ofA (fun h=>by cases h) (AtsOf.one (by have:=hg8.size;simp at this;omega) (by rw [hg8.cell_far _ (by first | (simp;done) | (simp;omega)) (by simp [Value.ownBlock])];go_simp) (by rw [hg8.cell_far _ (by first | (simp;done) | (simp;omega)) (by simp [Value.ownBlock])];go_simp))) (by unfold maxLen;omega) (by omega) (by have:=hb8'.size;simp;omega) ?_;intro q9 cp9 w9 hown9 hb9 _ _;have hb9':Below V0.heap.size V0 w9:=(hb8'.trans (by repeat (first | exact Below.refl _ _ | refine Below.drew ?_ | refine Below.alloc ?_ (by first | exact Nat.le_refl _ | exact hb8'.size | (have:=hb8'.size;simp;omega)) _))).trans hb9)
            | (refine step_app rowA (by rfl) (.tmp 79) (.tmp 82) (by rfl) V0.heap.size q9 cp9 ((o.take kk) ++ [x]) pd (cp - kk) (o.drop kk) (kk + 1) (o.length - kk) (o.length + 1) (by first | (simp;done) | (simp;omega)) (by simp) (uh Hlen) (by rfl) (by rw [uh Hpd];rfl) hown9 (uh HSd _ hb9') (by unfold maxLen;omega) (by omega) (by have:=hb9'.size;simpa using this) ?_;intro q10 cp10 w10 hown10 hb10 _ _;have hb10':=hb9'.trans hb10)))
           all_goals
            have HNx:Hid (NewA w.heap.size w10 q10 cp10 (putAt o kk x)):=hide (OwnK.newA (hown10.mono (uh BV).size))
            have Hb10:=hide (below_sub (uh BV) hb10')
            have Hpp:Hid ((putAt o kk x).Perm (l.take (m + 1))):=hide (by rw [take_snoc (uh Hx)];exact (put_perm o kk x).trans ((uh Hp).append_right [x]))
            have Hss:Hid (Strict nmA (putAt o kk x)):=hide (put_strict (uh Hs) (take_less (uh Hlo)) (drop_more (uh Hs) (uh Hne) (uh Hnl)))
            have Hoo:Hid (∀ y ∈ putAt o kk x,atOk y=true):=hide (fun y hy=>by
             rcases List.mem_append.1 ((put_perm o kk x).mem_iff.1 hy) with h | h
             ·exact uh Hok y h
             ·obtain rfl:y=x:=by simpa using h
              exact uh Hat)
            clear hown8 hown9 hown10 hb8 hb9 hb10 hb8' hb9' hb10' hg8 g0 g1 hAV hbV
            go_wp2
            go_roundw
            case rel=>exact ⟨m + 1,putAt o kk x,q10,cp10,by omega,by go_num,by rw [put_length],Hpp,Hss,HNx,Hoo,uh Hb10⟩
            case measure=>simp [intOf];omega
       ·have hr:(kindOf o x.1 != 0)=true:=by simpa using hz
        have Hno:Hid (¬ (l.all atOk=true/\(l.map nmA).Nodup)):=hide (by
         intro hh
         refine hz ((kind_zero (uh Hok)).2 fun y hy he=>?_)
         exact not_dup (uh Hp) (uh Hx) hy he hh)
        clear hz
        generalize kindOf o x.1=r at hr hkd
        go_wp2_with (first
         | (go_at_call 60;refine (hnm _).mono ?_;rintro e w1 ⟨rfl,rfl⟩)
         | (go_at_call 61;refine (hkd _ (Below.refl _ _)).mono ?_;rintro e w2 ⟨rfl,b2⟩;have B2:=hide b2;clear b2))
        go_ret2
        exact ⟨Or.inr (Or.inl ⟨uh H64,uh Hno,rfl⟩),below_sub (uh Hbel) (uh B2)⟩
      ·have n1:(x.2 != 1)=true:=by simpa using hx1
       have n2:(x.2 != 2)=true:=by simpa using hx2
       have Hno:=hide (not_ok (uh Hx) (by unfold atOk;rw [hn];simp [hx1,hx2]))
       clear hn hx1 hx2
       go_wp2_with (first | (go_at_call 60;refine (hnm _).mono ?_;rintro e w1 ⟨rfl,rfl⟩))
       go_ret2
       exact ⟨Or.inr (Or.inl ⟨uh H64,uh Hno,rfl⟩),uh Hbel⟩
   ·obtain rfl:m=l.length:=by omega
    have Hp2:Hid (o.Perm l):=hide (by have:=uh Hp;rwa [List.take_length] at this)
    go_wp2
    go_ret2
    exact ⟨Or.inr (Or.inr ⟨uh H64,by rw [<- (uh Hp2).all_eq,List.all_eq_true];exact uh Hok,strict_nodup (uh Hs) (uh Hp2),q,cp,o,rfl,uh Hp2,uh Hs,uh HN⟩),hbel⟩
end Go.Proofs.YtdgoibnndfibnaaGreatDoor.Sc

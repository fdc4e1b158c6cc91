/- What slices.SortFunc and schema.rising do to attributes and to pairs, for every list: by rising names, or a name stands twice. -/
import Derived.Test.YtdgoibnndfibnaaGreatDoorRScClone
import Derived.Shelf.SlSortCmp.WholeK
import Derived.Shelf.SlSortCmp.NoneTotal
namespace Go.Proofs.YtdgoibnndfibnaaGreatDoor.Sc
open Go.RowKit Go.Sort Go.Shelf
theorem below_sortWorld {α:Type} [Inhabited α] {enc:α->List Value} {k:Nat} (w:World) (g n:Nat) (d:Array α) (os:Array Obj) (hg:g < w.heap.size):Below g w (sortWorldK enc k w g 0 n d os):=by
 unfold sortWorldK putRowK
 refine ⟨rfl,rfl,rfl,by simp [grow,putRow,mapBlock,Sort.ahead],fun j hj=>?_⟩
 simp only [grow,putRow,mapBlock,Sort.ahead]
 rw [Array.getElem?_append_left (by simp;omega)]
 simp [Array.getElem?_modify,show g ≠ j by omega]
theorem holds_sortWorld {α:Type} [Inhabited α] {enc:α->List Value} {k:Nat} {w:World} {g n:Nat} {d d':Array α} {os:Array Obj} (hg:g < w.heap.size) (h:HoldsK enc k w g 0 d) (hs:d'.size=d.size):HoldsK enc k (sortWorldK enc k w g 0 n d' os) g 0 d'/\g < (sortWorldK enc k w g 0 n d' os).heap.size:=by
 have hz:(putRowK enc k (Sort.ahead w n) g 0 d').heap.size=w.heap.size:=by
  unfold putRowK;simp
 unfold sortWorldK
 exact ⟨holdsK_grow _ _ _ _ _ _ _ (by rw [hz];exact hg) (holdsK_putRowK _ _ _ _ _ d d' (holdsK_ahead _ _ _ _ _ _ _ h) hs),by simp [grow,hz];omega⟩
/-- By names that do not fall. -/
def Rises {α:Type} (nm:α->List UInt8) (l:List α):Prop:=∀ (i j:Nat) (x y:α),i < j->l[i]? = some x->l[j]? = some y->Op.bytesLess (nm y) (nm x)=false
/-- By names that rise. -/
def Strict {α:Type} (nm:α->List UInt8) (l:List α):Prop:=l.Pairwise fun x y=>Op.bytesLess (nm x) (nm y)=true
theorem strict_of {α:Type} {nm:α->List UInt8} {l:List α} (h:Rises nm l) (hn:∀ (m:Nat) (x y:α),l[m]? = some x->l[m + 1]? = some y->nm x ≠ nm y):Strict nm l:=by
 have key:∀ (d m:Nat) (x y:α),l[m]? = some x->l[m + d + 1]? = some y->Op.bytesLess (nm x) (nm y)=true:=by
  intro d
  induction d with
  | zero =>
   intro m x y hx hy
   have h1:=h m (m + 1) x y (by omega) hx hy
   exact less_total _ _ h1 (fun e=>hn m x y hx hy e.symm)
  | succ d ih =>
   intro m x y hx hy
   have hlt:m + (d + 1) + 1 < l.length:=(List.getElem?_eq_some_iff.1 hy).1
   obtain ⟨z,hz⟩:∃ z,l[m + d + 1]? = some z:=⟨_,List.getElem?_eq_getElem (by omega)⟩
   have a:=ih m x z hx hz
   have b:=h (m + d + 1) (m + (d + 1) + 1) z y (by omega) hz hy
   have c:=less_total _ _ b (fun e=>hn (m + d + 1) z y hz (by rw [show m + d + 1 + 1=m + (d + 1) + 1 by omega];exact hy) e.symm)
   exact less_trans _ _ _ a c
 unfold Strict
 rw [List.pairwise_iff_getElem]
 intro i j hi hj hij
 exact key (j - i - 1) i _ _ (List.getElem?_eq_getElem hi) (by rw [show i + (j - i - 1) + 1=j by omega];exact List.getElem?_eq_getElem hj)
theorem strict_nodup {α:Type} {nm:α->List UInt8} {l l':List α} (h:Strict nm l') (hp:l'.Perm l):(l.map nm).Nodup:=by
 have:(l'.map nm).Nodup:=by
  unfold List.Nodup
  rw [List.pairwise_map]
  refine h.imp fun {a b} hab=>?_
  intro e
  rw [e,less_irrefl] at hab;cases hab
 exact (hp.map nm).nodup_iff.1 this
theorem not_nodup {α:Type} {nm:α->List UInt8} {l l':List α} (hp:l'.Perm l) {m:Nat} {x y:α} (hx:l'[m]? = some x) (hy:l'[m + 1]? = some y) (he:nm x=nm y):¬ (l.map nm).Nodup:=by
 intro hn
 have h2:(l'.map nm).Nodup:=(hp.map nm).nodup_iff.2 hn
 unfold List.Nodup at h2
 rw [List.pairwise_iff_getElem] at h2
 obtain ⟨hm,ex⟩:=List.getElem?_eq_some_iff.1 hx
 obtain ⟨hm1,ey⟩:=List.getElem?_eq_some_iff.1 hy
 exact h2 m (m + 1) (by simpa using hm) (by simpa using hm1) (by omega) (by simp [ex,ey,he])
theorem rises_of {α:Type} [Inhabited α] {cf:α->α->Int} {nm:α->List UInt8} (hcf:∀ x y,cf x y=cmpS (nm x) (nm y)) {d':Array α} {n:Nat} (hs:d'.size=n) (h:SortedIn (ltOf cf) 0 n d'):Rises nm d'.toList:=by
 intro i j x y hij hx hy
 obtain ⟨hi,ex⟩:=List.getElem?_eq_some_iff.1 hx
 obtain ⟨hj,ey⟩:=List.getElem?_eq_some_iff.1 hy
 have:=h i j (Nat.zero_le _) hij (by rw [<- hs];simpa using hj)
 unfold ltOf at this
 rw [getElem!_pos _ j (by simpa using hj),getElem!_pos _ i (by simpa using hi),hcf,lt_cf] at this
 simp only [Array.getElem_toList] at ex ey
 rw [ex,ey] at this
 exact this
theorem perm_of {α:Type} [Inhabited α] {d d':Array α} (h:PermIn 0 d.size d d'):d'.toList.Perm d.toList:=by
 obtain ⟨hs,_,hp⟩:=h
 rw [<- hs] at hp
 have e1:d'.extract 0 d'.size=d':=Array.extract_size
 have e2:d.extract 0 d'.size=d:=by rw [hs];exact Array.extract_size
 rw [e1,e2] at hp
 exact hp
theorem below_sub {w w1 w':World} (h:Below w.heap.size w w1) (h2:Below w1.heap.size w1 w'):Below w.heap.size w w':=h.trans (h2.mono h.size)
theorem wrap_nat (m:Nat) (h:m<=4611686018427387904):IntKind.i64.wrap (m:Int)=(m:Int):=by
 have e:(2:Int) ^ IntKind.i64.bits=18446744073709551616:=by decide
 have e2:(2:Int) ^ (IntKind.i64.bits - 1)=9223372036854775808:=by decide
 simp [IntKind.wrap,e,e2]
 omega
theorem below_grown_any {B:Nat} {w wr:World} (h:Below B w wr) (hB:B<=wr.heap.size) (n:Nat) (os:Array Obj):Below B w (grow (wr.drewN n) os) :=
 ⟨h.os,h.tape,h.output,Nat.le_trans h.size (by simp [grow]),fun k hk=>by
  rw [<- h.block k hk]
  show (wr.heap ++ os)[k]? = _
  rw [Array.getElem?_append_left (by omega)]⟩
theorem sortA_some (c g cap:Nat) (l:List (ByteArray × Int)) (w:World) (hl:l.length < 4611686018427387904) (hH:HoldsK encA 2 w g 0 l.toArray) (hg:g < w.heap.size) (hc:w.cell? ⟨c,0,none⟩=some (.func (.func 54) #[] #[])) (hb:c < w.heap.size) (hne:c ≠ g) :
  Calls Tryz.prog 81 #[.slice (some ⟨g,0,none⟩) l.length cap,.func (.func 82) #[] #[.pointer (some ⟨c,0,none⟩)]] w fun e w'=>e=.returned (.tuple #[])/\∃ l',l'.Perm l/\Rises nmA l'/\HoldsK encA 2 w' g 0 l'.toArray/\g < w'.heap.size/\Below g w w':=by
 have eg:∀ args w,(callFunc 82 args).run Tryz.prog w=.ok (.enter 82 args) w:=enters_of Tryz.func82 (by kernel_rfl) rfl
 have hcon:=AnyQ.slices_SortFunc Tryz.sortA 2 Tryz.isAgg62 Tryz.sizeOf62 encA (fun _=>rfl) (fun x v hv=>by simp [encA] at hv;rcases hv with rfl | rfl <;> rfl) cfA swoA 82 #[.pointer (some ⟨c,0,none⟩)] g 0 cap l.toArray w eg (cmpLaysA c g 0 l.toArray.size w hc hb hne) hH hg (by simpa using hl)
 change Calls Tryz.prog 81 _ _ _ at hcon
 have es:l.toArray.size=l.length:=by simp
 rw [es] at hcon
 refine hcon.mono fun e w' ⟨he,d',n,os,hp,hs,hw⟩=>⟨he,d'.toList, ?_, ?_, ?_⟩
 ·have:=perm_of (d:=l.toArray) (by rw [es];exact hp)
  simpa using this
 ·exact rises_of (fun _ _=>rfl) (hp.1.trans es) hs
 ·subst hw
  obtain ⟨a,b⟩:=holds_sortWorld (n:=n) (os:=os) hg hH hp.1
  exact ⟨by simpa using a,b,below_sortWorld w g n d' os hg⟩
theorem sortA_none (q:Option Addr) (cap:Nat) (fv:Value) (w:World) :
  Calls Tryz.prog 81 #[.slice q 0 cap,fv] w fun e w'=>e=.returned (.tuple #[])/\w'=w:=by
 have hcon:=AnyF.slices_SortFunc_none Tryz.sortA q cap fv w
 change Calls Tryz.prog 81 _ _ _ at hcon
 exact hcon
/-- What rising returns. -/
def RisenA (w:World) (p:Option Addr) (l:List (ByteArray × Int)) (e:Ending) (w':World):Prop :=
  (∃ l' q cap',e=.returned (.tuple #[.slice q l'.length cap',.bool true])/\l'.Perm l/\Strict nmA l'/\NewA w.heap.size w' q cap' l'/\(q=none ↔ p=none)) ∨ (e=.returned (.tuple #[.slice none 0 0,.bool false])/\¬ (l.map nmA).Nodup)
set_option maxHeartbeats 2000000 in
theorem risingA_any (p:Option Addr) (cap:Nat) (l:List (ByteArray × Int)) (w:World) (hl:l.length * 24<=140737488355328) (hp:p=none->l.length=0/\cap=0) (hA:AtsOf w p l) :
  Calls Tryz.prog 53 #[.slice p l.length cap,.func (.func 54) #[] #[]] w fun e w'=>RisenA w p l e w'/\Below w.heap.size w w':=by
 have mixed:Tryz.prog.follows .mixedOrders=true:=by kernel_rfl
 have eN:∀ args w,(callFunc 54 args).run Tryz.prog w=.ok (.enter 54 args) w:=enters_of Tryz.func54 (by kernel_rfl) rfl
 have hcl:=cloneA_any p cap l (w.alloc (.cells #[.func (.func 54) #[] #[]] 63)) hl hp (hA.below ((Below.refl _ _).alloc (Nat.le_refl _) _))
 have hcell:(w.alloc (.cells #[.func (.func 54) #[] #[]] 63)).cell? ⟨w.heap.size,0,none⟩=some (.func (.func 54) #[] #[]):=by go_simp
 have Hcell:=hide hcell
 clear hcell hA
 by_cases h0:l.length=0
 ·obtain rfl:l=[]:=List.length_eq_zero_iff.1 h0
  simp only [List.length_nil] at hcl ⊢
  have hso:=fun (q:Option Addr) (cap:Nat) (fv:Value) (W:World)=>sortA_none q cap fv W
  go_enter Tryz.func53,Tryz.ntmps53
  go_wp2_with (first
   | (go_at_call 80;refine hcl.mono ?_;rintro e w1 ⟨q,cap',rfl,hN,hq,b1⟩;have B1:=hide b1;have HN:=hide hN;have Hq:=hide hq;clear b1 hN hq)
   | (go_at_call 81;refine (hso _ _ _ _).mono ?_;rintro e w2 ⟨rfl,rfl⟩))
  go_loop [7] (fun i=>i=.int .i64 1) (fun _=>0)
  case atStart=>rfl
  case round =>
   subst hrel
   go_wp2
   refine bodyPost_ret (v:=.tuple #[.slice q 0 cap',.bool true]) (by simp [results,Tryz.results53,go_sem]) rfl ?_
   refine ⟨Or.inl ⟨[],q,cap',rfl,List.Perm.refl _,List.Pairwise.nil,(uh HN).mono (by simp),uh Hq⟩, ?_⟩
   exact below_sub ((Below.refl _ _).alloc (Nat.le_refl _) _) (uh B1)
 ·have hso:=fun (g cap:Nat) (W:World) (h1:HoldsK encA 2 W g 0 l.toArray) (h2:g < W.heap.size) (h3:W.cell? ⟨w.heap.size,0,none⟩=some (.func (.func 54) #[] #[])) (h4:w.heap.size < W.heap.size) (h5:w.heap.size ≠ g)=>sortA_some w.heap.size g cap l W (by omega) h1 h2 h3 h4 h5
  go_enter Tryz.func53,Tryz.ntmps53
  go_wp2_with (first
   | (go_at_call 80;refine hcl.mono ?_;rintro e w1 ⟨q,cap',rfl,hN,hq,b1⟩;have Hq:=hide hq;(rcases hN with ⟨_,hln,_⟩ | ⟨g,rfl,hBg,hgw,hH,hcap,hcm⟩;(exact absurd (by rw [hln];rfl) h0));have hBg':w.heap.size + 1<=g:=(by simpa using hBg);have hc1:=(b1.cell (p:=⟨w.heap.size,0,none⟩) (by simp)).trans (uh Hcell);have B1:=hide b1;have HH:=hide hH;clear b1 hH hq)
   | (go_at_call 81;refine (hso g cap' _ (uh HH) hgw hc1 (by omega) (by omega)).mono ?_;rintro e w2 ⟨rfl,l',hperm,hrise,hH2,hgw2,b2⟩;have Hperm:=hide hperm;have Hrise:=hide hrise;have HH2:=hide hH2;have B2:=hide b2;have hc2:=(b2.cell (p:=⟨w.heap.size,0,none⟩) (by simp;omega)).trans hc1;clear hperm hrise hH2 b2))
  have hlen:l'.length=l.length:=(uh Hperm).length_eq
  have hcw2:w.heap.size < w2.heap.size:=by omega
  have Hc2:=hide hc2
  have Hat:=hide (AtsAt.of_holds (uh HH2))
  clear hc1 hc2
  go_loopw [7] (fun i wr=>∃ m:Nat,m + 1<=l.length/\i=.int .i64 ((m:Int) + 1)/\Below w2.heap.size w2 wr/\∀ (j:Nat) (x y:ByteArray × Int),j < m->l'[j]? = some x->l'[j + 1]? = some y->nmA x ≠ nmA y) (fun i _=>l.length - (intOf i).toNat)
  case atStart=>exact ⟨0,by omega,rfl,Below.refl _ _,fun j x y h=>by omega⟩
  case round =>
   obtain ⟨m,hm,rfl,hbel,hdif⟩:=hrel
   have Hdif:=hide hdif
   clear hdif
   by_cases hlt:m + 1 < l.length
   ·obtain ⟨x,hx,_⟩:=get_at (l:=l') (k:=m) (by omega)
    obtain ⟨y,hy,_⟩:=get_at (l:=l') (k:=m + 1) (by omega)
    have Hx:=hide hx
    have Hy:=hide hy
    have hcg:∀ n os,(grow (wr.drewN n) os).cell? ⟨w.heap.size,0,none⟩=some (.func (.func 54) #[] #[]):=cell_grown (by exact Nat.lt_of_lt_of_le hcw2 hbel.size) ((hbel.cell (by exact hcw2)).trans (uh Hc2))
    have hgr:g < wr.heap.size:=Nat.lt_of_lt_of_le hgw2 hbel.size
    obtain ⟨a0,a1⟩:=(uh Hat).below hbel hgw2 m x hx
    obtain ⟨b0,b1⟩:=(uh Hat).below hbel hgw2 (m + 1) y hy
    simp only [Nat.zero_add] at a0 a1 b0 b1
    have x0:∀ n os,(grow (wr.drewN n) os).cell? ⟨g,m * 2,none⟩=some (.string x.1):=cell_grown (by exact hgr) a0
    have x1:∀ n os,(grow (wr.drewN n) os).cell? ⟨g,m * 2 + 1,none⟩=some (.int .i64 x.2):=cell_grown (by exact hgr) a1
    have y0:∀ n os,(grow (wr.drewN n) os).cell? ⟨g,(m + 1) * 2,none⟩=some (.string y.1):=cell_grown (by exact hgr) b0
    have y1:∀ n os,(grow (wr.drewN n) os).cell? ⟨g,(m + 1) * 2 + 1,none⟩=some (.int .i64 y.2):=cell_grown (by exact hgr) b1
    clear hx hy a0 a1 b0 b1
    have ki0:(0:Int)<=(m:Int):=by omega
    have ki1:(m:Int) < (l.length:Int):=by omega
    have kj0:(0:Int)<=(m:Int) + 1:=by omega
    have kj1:(m:Int) + 1 < (l.length:Int):=by omega
    have kt:((m:Int) + 1).toNat=m + 1:=by omega
    have ks:=wrap_nat m (by omega)
    cases hq:(x.1.toList == y.1.toList) with
    | true =>
     have Hno:=hide (not_nodup (nm:=nmA) (uh Hperm) (uh Hx) (uh Hy) (by simpa [nmA] using hq))
     go_wp2
     go_quiet_grown (first | (go_at_fn 54;refine Calls.grown_of (attrName_any _ _)))
     go_wp2
     go_ret2
     refine ⟨Or.inr ⟨rfl,uh Hno⟩, ?_⟩
     exact (((below_sub ((Below.refl _ _).alloc (Nat.le_refl _) _) (uh B1)).trans ((uh B2).mono (by omega))).trans ((below_grown_any hbel (by have:=hbel.size;omega) _ _).mono (by omega)))
    | false =>
     have Hne:Hid (nmA x ≠ nmA y):=hide (by simpa [nmA] using hq)
     go_wp2
     go_quiet_grown (first | (go_at_fn 54;refine Calls.grown_of (attrName_any _ _)))
     go_wp2
     go_roundw
     case rel=>exact ⟨m + 1,by omega,by go_num,below_grown_any hbel hbel.size _ _,fun j x' y' hj hx' hy'=>by
      by_cases e:j=m
      ·subst e
       obtain rfl:x'=x:=Option.some.inj (hx'.symm.trans (uh Hx))
       obtain rfl:y'=y:=Option.some.inj (hy'.symm.trans (uh Hy))
       exact uh Hne
      ·exact uh Hdif j x' y' (by omega) hx' hy'⟩
     case measure=>simp [intOf];omega
   ·have hst:=hide (strict_of (uh Hrise) (fun j x y hx hy=>uh Hdif j x y (by have:=(List.getElem?_eq_some_iff.1 hy).1;omega) hx hy))
    have hge:¬ (m:Int) + 1 < (l.length:Int):=by omega
    go_wp2
    go_ret2
    refine ⟨Or.inl ⟨l',some ⟨g,0,none⟩,cap',(by rw [hlen];rfl),uh Hperm,uh hst, ?_,uh Hq⟩, ?_⟩
    ·exact Or.inr ⟨g,rfl,by omega,Nat.lt_of_lt_of_le hgw2 hbel.size,fun t ht=>⟨(hbel.cell (by exact hgw2)).trans (uh HH2 t ht).1,(hbel.frozen (by exact hgw2)).trans (uh HH2 t ht).2⟩,by omega,hcm⟩
    ·exact (((below_sub ((Below.refl _ _).alloc (Nat.le_refl _) _) (uh B1)).trans ((uh B2).mono (by omega))).trans (hbel.mono (by omega)))
end Go.Proofs.YtdgoibnndfibnaaGreatDoor.Sc
namespace Go.Proofs.YtdgoibnndfibnaaGreatDoor.Sc
open Go.RowKit Go.Sort Go.Shelf
set_option maxHeartbeats 400000 in
theorem attrInForm_any (x:ByteArray × Int) (w:World) :
  Calls Tryz.prog 52 #[.agg #[.string x.1,.int .i64 x.2]] w fun e w'=>e=.returned (.bool (atOk x))/\Below w.heap.size w w':=by
 have hn:=fun (W:World)=>name_any x.1 W
 cases h:nameOk x.1 with
 | false =>
  rw [h] at hn
  have H:=hide h
  clear h
  go_enter Tryz.func52,Tryz.ntmps52
  go_wp2_with (first | (go_at_call 79;refine (hn _).mono ?_;rintro e w' ⟨rfl,rfl⟩))
  go_ret
  exact ⟨ret_bool (by simp [atOk,uh H]),(Below.refl _ _).alloc (Nat.le_refl _) _⟩
 | true =>
  rw [h] at hn
  have H:=hide h
  clear h
  by_cases h1:x.2=1
  ·have h1':(x.2 == 1)=true:=by simp [h1]
   have H1:=hide h1
   clear h1
   go_enter Tryz.func52,Tryz.ntmps52
   go_wp2_with (first | (go_at_call 79;refine (hn _).mono ?_;rintro e w' ⟨rfl,rfl⟩))
   go_ret
   exact ⟨ret_bool (by simp [atOk,uh H,uh H1]),(Below.refl _ _).alloc (Nat.le_refl _) _⟩
  ·have h1':(x.2 == 1)=false:=by simp [h1]
   have H1:=hide h1
   clear h1
   cases h2:(x.2 == 2) with
   | true =>
    have H2:=hide h2
    go_enter Tryz.func52,Tryz.ntmps52
    go_wp2_with (first | (go_at_call 79;refine (hn _).mono ?_;rintro e w' ⟨rfl,rfl⟩))
    go_ret
    exact ⟨ret_bool (by unfold atOk;rw [uh H,uh H2];simp),(Below.refl _ _).alloc (Nat.le_refl _) _⟩
   | false =>
    have H2:=hide h2
    have H1':=hide h1'
    go_enter Tryz.func52,Tryz.ntmps52
    go_wp2_with (first | (go_at_call 79;refine (hn _).mono ?_;rintro e w' ⟨rfl,rfl⟩))
    go_ret
    exact ⟨ret_bool (by unfold atOk;rw [uh H,uh H1',uh H2];rfl),(Below.refl _ _).alloc (Nat.le_refl _) _⟩
theorem all_no {α:Type} {l:List α} {f:α->Bool} {k:Nat} {x:α} (hx:l[k]? = some x) (h:f x=false):l.all f=false:=by
 rw [Bool.eq_false_iff]
 intro hall
 rw [List.all_eq_true] at hall
 have:=hall x (List.mem_of_getElem? hx)
 rw [h] at this;cases this
theorem all_yes {α:Type} {l:List α} {f:α->Bool} (h:∀ (j:Nat) (x:α),j < l.length->l[j]? = some x->f x=true):l.all f=true:=by
 rw [List.all_eq_true]
 intro x hx
 obtain ⟨j,hj,rfl⟩:=List.mem_iff_getElem.1 hx
 exact h j _ hj (List.getElem?_eq_getElem hj)
set_option maxHeartbeats 1000000 in
theorem allA_any (p:Option Addr) (cap:Nat) (l:List (ByteArray × Int)) (w:World) (hm:l.length<=140737488355328) (hA:AtsOf w p l) :
  Calls Tryz.prog 51 #[.slice p l.length cap,.func (.func 52) #[] #[]] w fun e w'=>e=.returned (.bool (l.all atOk))/\Below w.heap.size w w':=by
 have HA:=hide hA
 clear hA
 go_enter Tryz.func51,Tryz.ntmps51
 go_wp2
 go_loopw [9] (fun i wr=>∃ k:Nat,k<=l.length/\i=.int .i64 k/\Below w.heap.size w wr/\∀ (j:Nat) (x:ByteArray × Int),j < k->l[j]? = some x->atOk x=true) (fun i _=>l.length - (intOf i).toNat)
 case atStart=>exact ⟨0,by omega,rfl,Below.refl _ _,fun j x h=>by omega⟩
 case round =>
  obtain ⟨k,hk,rfl,hbel,hall⟩:=hrel
  have Hall:=hide hall
  clear hall
  by_cases hlt:k < l.length
  ·obtain ⟨bb,off,rfl,hbb,hAt⟩:=uh HA (by omega)
   obtain ⟨x,hx,_⟩:=get_at hlt
   have ki0:(0:Int)<=(k:Int):=by omega
   have ki1:(k:Int) < (l.length:Int):=by omega
   obtain ⟨g0,g1⟩:=hAt.below hbel hbb k x hx
   have Hx:=hide hx
   clear hx
   have hf:=fun (W:World)=>attrInForm_any x W
   cases ho:atOk x with
   | false =>
    have Hn:=hide (all_no (uh Hx) ho)
    rw [ho] at hf
    clear ho
    go_wp2_with (first | (go_at_call 52;refine (hf _).mono ?_;rintro e w1 ⟨rfl,b1⟩))
    go_ret
    exact ⟨ret_bool (uh Hn).symm,hbel.trans (((Below.refl _ _).alloc hbel.size _).trans (b1.mono (by have:=hbel.size;simp;omega)))⟩
   | true =>
    have Ho:=hide ho
    rw [ho] at hf
    clear ho
    go_wp2_with (first | (go_at_call 52;refine (hf _).mono ?_;rintro e w1 ⟨rfl,b1⟩))
    go_roundw
    case rel=>exact ⟨k + 1,by omega,by go_num,hbel.trans (((Below.refl _ _).alloc hbel.size _).trans (b1.mono (by have:=hbel.size;simp;omega))),fun j x' hj hx'=>by
     by_cases e:j=k
     ·subst e
      obtain rfl:x'=x:=Option.some.inj (hx'.symm.trans (uh Hx))
      exact uh Ho
     ·exact uh Hall j x' (by omega) hx'⟩
    case measure=>simp [intOf];omega
  ·obtain rfl:k=l.length:=by omega
   have Hy:=hide (all_yes (uh Hall))
   go_wp2
   go_ret
   exact ⟨ret_bool (uh Hy).symm,hbel⟩
/-- A schema in new memory, behind B. -/
def SchNew (B:Nat) (w:World) (b:Nat) (l:List (ByteArray × Int)):Prop :=
  B<=b/\b < w.heap.size/\∃ q cap,w.cell? ⟨b,0,none⟩=some (.slice q l.length cap)/\NewA B w q cap l
theorem SchNew.at {B:Nat} {w:World} {b:Nat} {l:List (ByteArray × Int)} (h:SchNew B w b l):SchAt w b l:=by
 obtain ⟨_,h1,q,cap,hc,hN⟩:=h
 refine ⟨h1,q,cap,hc,hN.of,fun e=>?_⟩
 rcases hN with ⟨_,rfl,h2⟩ | ⟨g,h2,_⟩
 ·exact ⟨rfl,h2⟩
 ·rw [e] at h2;cases h2
theorem SchNew.below {B:Nat} {w w':World} {b:Nat} {l:List (ByteArray × Int)} (h:SchNew B w b l) (hb:Below w.heap.size w w'):SchNew B w' b l:=by
 obtain ⟨h0,h1,q,cap,hc,hN⟩:=h
 exact ⟨h0,Nat.lt_of_lt_of_le h1 hb.size,q,cap,(hb.cell (by exact h1)).trans hc,hN.below hb⟩
theorem SchNew.mono {B B':Nat} {w:World} {b:Nat} {l:List (ByteArray × Int)} (h:SchNew B w b l) (hb:B'<=B):SchNew B' w b l:=by
 obtain ⟨h0,h1,q,cap,hc,hN⟩:=h
 exact ⟨Nat.le_trans hb h0,h1,q,cap,hc,hN.mono hb⟩
/-- What New returns. -/
def NewRes (B:Nat) (l:List (ByteArray × Int)) (e:Ending) (w':World):Prop :=
  (64 < l.length/\e=.returned (.tuple #[.pointer none,.int .i64 2])) ∨
  (l.length<=64/\¬ (l.all atOk=true/\(l.map nmA).Nodup)/\e=.returned (.tuple #[.pointer none,.int .i64 1])) ∨
  (l.length<=64/\l.all atOk=true/\(l.map nmA).Nodup/\∃ b l',e=.returned (.tuple #[.pointer (some ⟨b,0,none⟩),.int .i64 0])/\l'.Perm l/\Strict nmA l'/\SchNew B w' b l')
set_option maxHeartbeats 1000000 in
theorem new_any (p:Option Addr) (cap:Nat) (l:List (ByteArray × Int)) (w:World) (hl:l.length * 24<=140737488355328) (hp:p=none->l.length=0/\cap=0) (hA:AtsOf w p l) :
  Calls Tryz.prog 25 #[.slice p l.length cap] w fun e w'=>NewRes w.heap.size l e w'/\Below w.heap.size w w':=by
 by_cases h64:64 < l.length
 ·have i1:(64:Int) < (l.length:Int):=by omega
  clear hA hp
  go_enter Tryz.func25,Tryz.ntmps25
  go_wp2
  go_ret2
  exact ⟨Or.inl ⟨h64,rfl⟩,Below.refl _ _⟩
 ·have i1:¬ (64:Int) < (l.length:Int):=by omega
  have hal:=allA_any p cap l w (by omega) hA
  cases ho:l.all atOk with
  | false =>
   rw [ho] at hal
   have Ho:=hide ho
   clear ho hA hp
   go_enter Tryz.func25,Tryz.ntmps25
   go_wp2_with (first | (go_at_call 51;refine hal.mono ?_;rintro e w1 ⟨rfl,b1⟩))
   go_ret2
   exact ⟨Or.inr (Or.inl ⟨by omega,(fun h=>by rw [uh Ho] at h;cases h.1),rfl⟩),b1⟩
  | true =>
   rw [ho] at hal
   have Ho:=hide ho
   have hri:=fun (W:World) (hb:Below w.heap.size w W)=>risingA_any p cap l W hl hp (hA.below hb)
   clear ho hA hp
   go_enter Tryz.func25,Tryz.ntmps25
   go_wp2_with (first
    | (go_at_call 51;refine hal.mono ?_;rintro e w1 ⟨rfl,b1⟩)
    | (go_at_call 53;refine (hri _ b1).mono ?_;rintro e w2 ⟨hres,b2⟩;rcases hres with ⟨l',q,cap',rfl,hperm,hstr,hN,_⟩ | ⟨rfl,hno⟩))
   ·have HN:=hide hN
    have Hp:=hide hperm
    have Hs:=hide hstr
    have hbb:=hide (below_sub b1 b2)
    have hb1:=b1.size
    have hb2:=b2.size
    clear hN hperm hstr hri b1 b2
    go_wp2
    go_ret2
    have hbn:Below w2.heap.size w2 (w2.alloc (.cells #[.slice q l'.length cap'] 96)):=(Below.refl _ _).alloc (Nat.le_refl _) _
    refine ⟨Or.inr (Or.inr ⟨by omega,uh Ho,strict_nodup (uh Hs) (uh Hp),w2.heap.size,l',rfl,uh Hp,uh Hs,by omega,by simp,q,cap',by go_simp,((uh HN).mono hb1).below hbn⟩), ?_⟩
    exact below_sub (uh hbb) hbn
   ·have Hn:=hide hno
    have hbb:=hide (below_sub b1 b2)
    clear hri b1 b2 hno
    go_wp2
    go_ret2
    exact ⟨Or.inr (Or.inl ⟨by omega,fun h=>uh Hn h.2,rfl⟩),uh hbb⟩
end Go.Proofs.YtdgoibnndfibnaaGreatDoor.Sc

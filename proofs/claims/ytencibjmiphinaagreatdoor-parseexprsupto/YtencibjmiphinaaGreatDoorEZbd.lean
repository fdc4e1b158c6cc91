/- What schema.New returns, for every list of attributes, and what Attrs returns of a schema. -/
import Derived.Test.YtencibjmiphinaaGreatDoorEScSort
import Derived.Test.YtencibjmiphinaaGreatDoorEPaFx
import Derived.Test.YtencibjmiphinaaGreatDoorEZbb
import Derived.Test.YtencibjmiphinaaGreatDoorEZbc
import Derived.Deep.AppendLies
import Derived.Laws.AppendOwnNone
namespace Go.Proofs.YtencibjmiphinaaGreatDoor.Sc
open Go.RowKit Go.Sort Go.Shelf

/-- An attribute in form. -/
def atOk (x:ByteArray × Int):Bool:=nameOk x.1 && (x.2 == 1 || x.2 == 2)

set_option maxHeartbeats 400000 in
theorem attrInForm_any (x:ByteArray × Int) (w:World) :
    Calls Tryz.prog 30 #[.agg #[.string x.1,.int .i64 x.2]] w fun e w'=>e=.returned (.bool (atOk x))∧Below w.heap.size w w':=by
  have hn:=fun (W:World)=>name_any x.1 W
  cases h:nameOk x.1 with
  | false =>
    rw [h] at hn
    have H:=hide h
    clear h
    go_enter Tryz.func30,Tryz.ntmps30
    go_wp2_with (first | (go_at_call 60;refine (hn _).mono ?_;rintro e w' ⟨rfl,rfl⟩))
    go_ret
    exact ⟨ret_bool (by simp [atOk,uh H]),(Below.refl _ _).alloc (Nat.le_refl _) _⟩
  | true =>
    rw [h] at hn
    have H:=hide h
    clear h
    by_cases h1:x.2=1
    · have h1':(x.2 == 1)=true:=by simp [h1]
      have H1:=hide h1
      clear h1
      go_enter Tryz.func30,Tryz.ntmps30
      go_wp2_with (first | (go_at_call 60;refine (hn _).mono ?_;rintro e w' ⟨rfl,rfl⟩))
      go_ret
      exact ⟨ret_bool (by simp [atOk,uh H,uh H1]),(Below.refl _ _).alloc (Nat.le_refl _) _⟩
    · have h1':(x.2 == 1)=false:=by simp [h1]
      have H1:=hide h1
      clear h1
      cases h2:(x.2 == 2) with
      | true =>
        have H2:=hide h2
        go_enter Tryz.func30,Tryz.ntmps30
        go_wp2_with (first | (go_at_call 60;refine (hn _).mono ?_;rintro e w' ⟨rfl,rfl⟩))
        go_ret
        exact ⟨ret_bool (by unfold atOk;rw [uh H,uh H2];simp),(Below.refl _ _).alloc (Nat.le_refl _) _⟩
      | false =>
        have H2:=hide h2
        have H1':=hide h1'
        go_enter Tryz.func30,Tryz.ntmps30
        go_wp2_with (first | (go_at_call 60;refine (hn _).mono ?_;rintro e w' ⟨rfl,rfl⟩))
        go_ret
        exact ⟨ret_bool (by unfold atOk;rw [uh H,uh H1',uh H2];rfl),(Below.refl _ _).alloc (Nat.le_refl _) _⟩

theorem all_no {α:Type} {l:List α} {f:α→Bool} {k:Nat} {x:α} (hx:l[k]? = some x) (h:f x=false):l.all f=false:=by
  rw [Bool.eq_false_iff]
  intro hall
  rw [List.all_eq_true] at hall
  have:=hall x (List.mem_of_getElem? hx)
  rw [h] at this;cases this
theorem all_yes {α:Type} {l:List α} {f:α→Bool} (h:∀ (j:Nat) (x:α),j < l.length→l[j]? = some x→f x=true):l.all f=true:=by
  rw [List.all_eq_true]
  intro x hx
  obtain ⟨j,hj,rfl⟩:=List.mem_iff_getElem.1 hx
  exact h j _ hj (List.getElem?_eq_getElem hj)

set_option maxHeartbeats 1000000 in
theorem allA_any (p:Option Addr) (cap:Nat) (l:List (ByteArray × Int)) (w:World) (hm:l.length≤140737488355328) (hA:AtsOf w p l) :
    Calls Tryz.prog 29 #[.slice p l.length cap,.func (.func 30) #[] #[]] w fun e w'=>e=.returned (.bool (l.all atOk))∧Below w.heap.size w w':=by
  have HA:=hide hA
  clear hA
  go_enter Tryz.func29,Tryz.ntmps29
  go_wp2
  go_loopw [9] (fun i wr=>∃ k:Nat,k≤l.length∧i=.int .i64 k∧Below w.heap.size w wr∧∀ (j:Nat) (x:ByteArray × Int),j < k→l[j]? = some x→atOk x=true) (fun i _=>l.length - (intOf i).toNat)
  case atStart=>exact ⟨0,by omega,rfl,Below.refl _ _,fun j x h=>by omega⟩
  case round =>
    obtain ⟨k,hk,rfl,hbel,hall⟩:=hrel
    have Hall:=hide hall
    clear hall
    by_cases hlt:k < l.length
    · obtain ⟨bb,off,rfl,hbb,hAt⟩:=uh HA (by omega)
      obtain ⟨x,hx,_⟩:=get_at hlt
      have ki0:(0:Int)≤(k:Int):=by omega
      have ki1:(k:Int) < (l.length:Int):=by omega
      obtain ⟨g0,g1⟩:=hAt.below hbel hbb k x hx
      have Hx:=hide hx
      clear hx
      have hf:=fun (W:World)=>attrInForm_any x W
      cases ho:atOk x with
      | false =>
        have Hn:=hide (all_no (uh Hx) ho)
        rw [ho] at hf
        clear ho
        go_wp2_with (first | (go_at_call 30;refine (hf _).mono ?_;rintro e w1 ⟨rfl,b1⟩))
        go_ret
        exact ⟨ret_bool (uh Hn).symm,hbel.trans (((Below.refl _ _).alloc hbel.size _).trans (b1.mono (by have:=hbel.size;simp;omega)))⟩
      | true =>
        have Ho:=hide ho
        rw [ho] at hf
        clear ho
        go_wp2_with (first | (go_at_call 30;refine (hf _).mono ?_;rintro e w1 ⟨rfl,b1⟩))
        go_roundw
        case rel=>exact ⟨k + 1,by omega,by go_num,hbel.trans (((Below.refl _ _).alloc hbel.size _).trans (b1.mono (by have:=hbel.size;simp;omega))),fun j x' hj hx'=>by
            by_cases e:j=k
            · subst e
              obtain rfl:x'=x:=Option.some.inj (hx'.symm.trans (uh Hx))
              exact uh Ho
            · exact uh Hall j x' (by omega) hx'⟩
        case measure=>simp [intOf];omega
    · obtain rfl:k=l.length:=by omega
      have Hy:=hide (all_yes (uh Hall))
      go_wp2
      go_ret
      exact ⟨ret_bool (uh Hy).symm,hbel⟩

/-- A schema in new memory, behind B. -/
def SchNew (B:Nat) (w:World) (b:Nat) (l:List (ByteArray × Int)):Prop :=
  B≤b∧b < w.heap.size∧∃ q cap,w.cell? ⟨b,0,none⟩=some (.slice q l.length cap)∧NewA B w q cap l
theorem SchNew.at {B:Nat} {w:World} {b:Nat} {l:List (ByteArray × Int)} (h:SchNew B w b l):SchAt w b l:=by
  obtain ⟨_,h1,q,cap,hc,hN⟩:=h
  refine ⟨h1,q,cap,hc,hN.of,fun e=>?_⟩
  rcases hN with ⟨_,rfl,h2⟩ | ⟨g,h2,_⟩
  · exact ⟨rfl,h2⟩
  · rw [e] at h2;cases h2
theorem SchNew.below {B:Nat} {w w':World} {b:Nat} {l:List (ByteArray × Int)} (h:SchNew B w b l) (hb:Below w.heap.size w w'):SchNew B w' b l:=by
  obtain ⟨h0,h1,q,cap,hc,hN⟩:=h
  exact ⟨h0,Nat.lt_of_lt_of_le h1 hb.size,q,cap,(hb.cell (by exact h1)).trans hc,hN.below hb⟩
theorem SchNew.mono {B B':Nat} {w:World} {b:Nat} {l:List (ByteArray × Int)} (h:SchNew B w b l) (hb:B'≤B):SchNew B' w b l:=by
  obtain ⟨h0,h1,q,cap,hc,hN⟩:=h
  exact ⟨Nat.le_trans hb h0,h1,q,cap,hc,hN.mono hb⟩

/-- What New returns. -/
def NewRes (B:Nat) (l:List (ByteArray × Int)) (e:Ending) (w':World):Prop :=
  (64 < l.length∧e=.returned (.tuple #[.pointer none,.int .i64 2])) ∨
  (l.length≤64∧¬ (l.all atOk=true∧(l.map nmA).Nodup)∧e=.returned (.tuple #[.pointer none,.int .i64 1])) ∨
  (l.length≤64∧l.all atOk=true∧(l.map nmA).Nodup∧∃ b l',e=.returned (.tuple #[.pointer (some ⟨b,0,none⟩),.int .i64 0])∧l'.Perm l∧Strict nmA l'∧SchNew B w' b l')

set_option maxHeartbeats 1000000 in
theorem new_any (p:Option Addr) (cap:Nat) (l:List (ByteArray × Int)) (w:World) (hl:l.length * 24≤140737488355328) (hp:p=none→l.length=0∧cap=0) (hA:AtsOf w p l) :
    Calls Tryz.prog 13 #[.slice p l.length cap] w fun e w'=>NewRes w.heap.size l e w'∧Below w.heap.size w w':=by
  by_cases h64:64 < l.length
  · have i1:(64:Int) < (l.length:Int):=by omega
    clear hA hp
    go_enter Tryz.func13,Tryz.ntmps13
    go_wp2
    go_ret2
    exact ⟨Or.inl ⟨h64,rfl⟩,Below.refl _ _⟩
  · have i1:¬ (64:Int) < (l.length:Int):=by omega
    have hal:=allA_any p cap l w (by omega) hA
    cases ho:l.all atOk with
    | false =>
      rw [ho] at hal
      have Ho:=hide ho
      clear ho hA hp
      go_enter Tryz.func13,Tryz.ntmps13
      go_wp2_with (first | (go_at_call 29;refine hal.mono ?_;rintro e w1 ⟨rfl,b1⟩))
      go_ret2
      exact ⟨Or.inr (Or.inl ⟨by omega,(fun h=>by rw [uh Ho] at h;cases h.1),rfl⟩),b1⟩
    | true =>
      rw [ho] at hal
      have Ho:=hide ho
      have hri:=fun (W:World) (hb:Below w.heap.size w W)=>risingA_any p cap l W hl hp (hA.below hb)
      clear ho hA hp
      go_enter Tryz.func13,Tryz.ntmps13
      go_wp2_with (first
        | (go_at_call 29;refine hal.mono ?_;rintro e w1 ⟨rfl,b1⟩)
        | (go_at_call 31;refine (hri _ b1).mono ?_;rintro e w2 ⟨hres,b2⟩;rcases hres with ⟨l',q,cap',rfl,hperm,hstr,hN,_⟩ | ⟨rfl,hno⟩))
      · have HN:=hide hN
        have Hp:=hide hperm
        have Hs:=hide hstr
        have hbb:=hide (below_sub b1 b2)
        have hb1:=b1.size
        have hb2:=b2.size
        clear hN hperm hstr hri b1 b2
        go_wp2
        go_ret2
        have hbn:Below w2.heap.size w2 (w2.alloc (.cells #[.slice q l'.length cap'] 79)):=(Below.refl _ _).alloc (Nat.le_refl _) _
        refine ⟨Or.inr (Or.inr ⟨by omega,uh Ho,strict_nodup (uh Hs) (uh Hp),w2.heap.size,l',rfl,uh Hp,uh Hs,by omega,by simp,q,cap',by go_simp,((uh HN).mono hb1).below hbn⟩), ?_⟩
        exact below_sub (uh hbb) hbn
      · have Hn:=hide hno
        have hbb:=hide (below_sub b1 b2)
        clear hri b1 b2 hno
        go_wp2
        go_ret2
        exact ⟨Or.inr (Or.inl ⟨by omega,fun h=>uh Hn h.2,rfl⟩),uh hbb⟩

end Go.Proofs.YtencibjmiphinaaGreatDoor.Sc
namespace Go.Proofs.YtencibjmiphinaaGreatDoor
open Go.RowKit

theorem bl_on {w w':World} {b:Nat} {o:Obj} (h:w.heap[b]? = some o) (hb:Below w.heap.size w w'):w'.heap[b]? = some o:=(hb.block b (Array.getElem?_eq_some_iff.1 h).1).trans h
/-- Parse of the first text. -/
theorem fxA (w:World) (hG:Lx.G w):Calls Tryz.prog 10 #[.string ⟨#[97,32,123,49,44,32,50,125,32,38,32,33,99,32,34,120,34,42,32,124,32,97,32,91,48,44,32,57,93]⟩] w fun e w'=>∃ qi ci qw cw kb koff ck,e=.returned (.tuple #[.agg #[.int .i64 0,.string ⟨#[]⟩,.slice qi 0 ci,.slice qw 0 cw,.int .i64 0,.int .i64 0,.int .i64 4,.slice (some ⟨kb,koff,none⟩) 2 ck],.int .i64 0,.int .i64 0]) ∧
    NdIn w' ⟨0,⟨#[]⟩,qi,0,ci,qw,0,cw,0,0,4,some ⟨kb,koff,none⟩,2,ck⟩ (.mk 0 ⟨#[]⟩ [] [] 0 0 4 [.mk 0 ⟨#[]⟩ [] [] 0 0 3 [.mk 1 ⟨#[97]⟩ [1,2] [] 0 0 1 [],.mk 0 ⟨#[]⟩ [] [] 0 0 2 [.mk 4 ⟨#[99]⟩ [] [⟨#[120]⟩] 0 0 1 []]],.mk 3 ⟨#[97]⟩ [] [] 0 9 1 []])∧kb < w'.heap.size∧w'.cell? ⟨kb,koff + 13,none⟩=some (.int .i64 9)∧Below w.heap.size w w':=by
  refine (parse_any _ w hG).mono fun e w' h=>?_
  obtain ⟨⟨v,he,hv⟩,hb⟩:=h.ok parA
  have hin:=hv.toIn
  obtain ⟨qi,ci,qw,cw,qk,ck,rfl,h1,h2,hk⟩:=hin.parts
  obtain ⟨kb,koff,kv,rfl,hlt,hkin,_,_,_,_,_,k5,_⟩:=hk.at (j:=1) rfl
  obtain ⟨_,_,_,_,_,_,rfl,_⟩:=hkin.parts
  exact ⟨qi,ci,qw,cw,kb,koff,ck,he,hin,hlt,k5,hb⟩
theorem fxB (w:World) (hG:Lx.G w):Calls Tryz.prog 10 #[.string ⟨#[97,32,123,49,32,50,125]⟩] w fun e w'=>e=.returned (.tuple #[zVal,.int .i64 5,.int .i64 10])∧Below w.heap.size w w' :=
  (parse_any _ w hG).mono fun _ _ h=>h.bad parB
theorem fxN (w:World) (M:Nat) (hM:w.heap.size=M):Calls Tryz.prog 13 #[.slice (some ⟨M,0,none⟩) 1 1] (w.alloc (.cells #[.string ⟨#[97]⟩,.int .i64 1] 62)) fun e w'=>∃ b,e=.returned (.tuple #[.pointer (some ⟨b,0,none⟩),.int .i64 0])∧Sc.SchAt w' b [(⟨#[97]⟩,1)]∧Below w.heap.size w w':=by
  subst hM
  have hA:Sc.AtsOf (w.alloc (.cells #[.string ⟨#[97]⟩,.int .i64 1] 62)) (some ⟨w.heap.size,0,none⟩) [(⟨#[97]⟩,1)]:=fun _=>⟨w.heap.size,0,rfl,by simp,fun j x hj=>by
    obtain ⟨c0,c1,_⟩:=of2 (box_nw w (.cells #[.string ⟨#[97]⟩,.int .i64 1] 62))
    cases j with
    | zero=>cases hj;exact ⟨c0,c1⟩
    | succ j=>simp at hj⟩
  refine (Sc.new_any (some ⟨w.heap.size,0,none⟩) 1 [(⟨#[97]⟩,1)] (w.alloc (.cells #[.string ⟨#[97]⟩,.int .i64 1] 62)) (by decide) (fun h=>by cases h) hA).mono fun e w' h=>?_
  obtain ⟨h,hb⟩:=h
  have hb2:Below w.heap.size w w':=below_sub ((Below.refl _ _).alloc (Nat.le_refl _) _) hb
  rcases h with ⟨h,_⟩ | ⟨_,h,_⟩ | ⟨_,_,_,b,l',he,hp,_,hs⟩
  · simp at h
  · exact absurd ⟨by decide,by simp⟩ h
  · have:l'=[(⟨#[97]⟩,1)]:=List.perm_singleton.1 hp
    subst this
    exact ⟨b,he,hs.at,hb2⟩
theorem fxC2 (b:Nat) (w:World) (hG:Lx.G w) (hS:Sc.SchAt w b [(⟨#[97]⟩,1)]):Calls Tryz.prog 15 #[.pointer (some ⟨b,0,none⟩),.int .i64 2,.string ⟨#[33,33,97,32,123,49,125]⟩] w fun e w'=>e=.returned (.tuple #[zVal,.int .i64 11])∧Below w.heap.size w w' :=
  (expr_any b _ (by decide) 2 _ w hG hS).mono fun e w' h=>by rw [exC2] at h;exact h
theorem fxC3 (b:Nat) (w:World) (hG:Lx.G w) (hS:Sc.SchAt w b [(⟨#[97]⟩,1)]):Calls Tryz.prog 15 #[.pointer (some ⟨b,0,none⟩),.int .i64 3,.string ⟨#[33,33,97,32,123,49,125]⟩] w fun e w'=>∃ ri di rw dw rk dk,e=.returned (.tuple #[.agg #[.int .i64 0,.string ⟨#[]⟩,.slice ri 0 di,.slice rw 0 dw,.int .i64 0,.int .i64 0,.int .i64 2,.slice rk 1 dk],.int .i64 0])∧Below w.heap.size w w' :=
  (expr_any b _ (by decide) 3 _ w hG hS).mono fun e w' h=>by
    rw [exC3] at h
    obtain ⟨⟨v,he,hv⟩,hb⟩:=h
    obtain ⟨ri,di,rw',dw,rk,dk,rfl,_⟩:=hv.toIn.parts
    exact ⟨ri,di,rw',dw,rk,dk,he,hb⟩
set_option maxHeartbeats 4000000 in
theorem fixed_any5 (w:World) (hG:Lx.G w):Calls Tryz.prog 9 #[] w fun e w'=>e=.returned (.bool true)∧Below w.heap.size w w':=by
  have HG:=hide hG
  clear hG
  go_enter Tryz.func9,Tryz.ntmps9
  go_wp2_with first
    | (go_at_call 10;refine (fxB _ (Lx.G_below (uh HG) (uh B1))).mono ?_;rintro e w2 ⟨rfl,hb⟩;have X2:=hide (bl_on (uh X1) hb);have k2:w2.cell? ⟨kb,koff + 13,none⟩=some (.int .i64 9):=(hb.cell (p:=⟨kb,koff + 13,none⟩) (by have:=uh KL;simp;omega)).trans (by have:=uh KL;go_simp);have I2:=hide ((uh I1).keep hb);have B2:=hide (below_sub (uh B1) hb);have hl2:w1.heap.size < w2.heap.size:=(by have:=hb.size;simp at this;omega);obtain ⟨x0,x1,x2,x3,x4,x5,x6,x7⟩:=of8' (uh X2);have hl3:kb < w2.heap.size:=(by have:=uh KL;omega);clear hb;unfold zVal)
    | (go_at_call 10;refine (fxA _ (uh HG)).mono ?_;rintro e w1 ⟨qi,ci,qw,cw,kb,koff,ck,rfl,hin,hlt,k1,hb⟩;have KL:=hide hlt;have K1:=hide k1;have B1:=hide (hb.alloc hb.size (.cells #[.int .i64 0,.string ⟨#[]⟩,.slice qi 0 ci,.slice qw 0 cw,.int .i64 0,.int .i64 0,.int .i64 4,.slice (some ⟨kb,koff,none⟩) 2 ck] 29));have X1:=hide (box_nw w1 (.cells #[.int .i64 0,.string ⟨#[]⟩,.slice qi 0 ci,.slice qw 0 cw,.int .i64 0,.int .i64 0,.int .i64 4,.slice (some ⟨kb,koff,none⟩) 2 ck] 29));have I1:=hide (hin.keep ((Below.refl w1.heap.size w1).alloc (Nat.le_refl _) (.cells #[.int .i64 0,.string ⟨#[]⟩,.slice qi 0 ci,.slice qw 0 cw,.int .i64 0,.int .i64 0,.int .i64 4,.slice (some ⟨kb,koff,none⟩) 2 ck] 29)));clear hin hlt hb)
    | (go_at_call 13;refine (fxN _ _ (by simp)).mono ?_;rintro e w3 ⟨b,rfl,hS,hb⟩;have hb2:=below_sub ((Below.refl w2.heap.size w2).alloc (Nat.le_refl _) (.cells #[.int .i64 0,.string ⟨#[]⟩,.slice none 0 0,.slice none 0 0,.int .i64 0,.int .i64 0,.int .i64 0,.slice none 0 0] 29)) hb;have X3:=hide (bl_on (uh X2) hb2);have I3:=hide ((uh I2).keep hb2);have B3:=hide (below_sub (uh B2) hb2);have S3:=hide hS;clear hb hb2 hS)
    | (go_at_call 15;have tst:=uh X4;clear tst;refine (fxC3 b _ (Lx.G_below (uh HG) ((uh B4).alloc (uh B4).size (.cells #[.int .i64 0,.string ⟨#[]⟩,.slice none 0 0,.slice none 0 0,.int .i64 0,.int .i64 0,.int .i64 0,.slice none 0 0] 29))) ((uh S4).below ((Below.refl _ _).alloc (Nat.le_refl _) (.cells #[.int .i64 0,.string ⟨#[]⟩,.slice none 0 0,.slice none 0 0,.int .i64 0,.int .i64 0,.int .i64 0,.slice none 0 0] 29)))).mono ?_;rintro e w5 ⟨ri,di,rw',dw,rk,dk,rfl,hb⟩;have hb2:=below_sub ((Below.refl w4.heap.size w4).alloc (Nat.le_refl _) (.cells #[.int .i64 0,.string ⟨#[]⟩,.slice none 0 0,.slice none 0 0,.int .i64 0,.int .i64 0,.int .i64 0,.slice none 0 0] 29)) hb;have hb3:=below_sub hb2 ((Below.refl w5.heap.size w5).alloc (Nat.le_refl _) (.cells #[.int .i64 0,.string ⟨#[]⟩,.slice ri 0 di,.slice rw' 0 dw,.int .i64 0,.int .i64 0,.int .i64 2,.slice rk 1 dk] 29));have X5:=hide (bl_on (uh X4) hb3);have I5:=hide ((uh I4).keep hb3);have S5:=hide ((uh S4).below hb3);have B5:=hide (below_sub (uh B4) hb3);have L5:=hide (Nat.lt_of_lt_of_le (uh L4) hb2.size);obtain ⟨y0,y1,y2,y3,y4,y5,y6,y7⟩:=of8' (uh X5);clear hb hb2 hb3)
    | (go_at_call 15;refine (fxC2 b _ (Lx.G_below (uh HG) (uh B3)) (uh S3)).mono ?_;rintro e w4 ⟨rfl,hb⟩;have X4:=hide (bl_on (uh X3) hb);have I4:=hide ((uh I3).keep hb);have S4:=hide ((uh S3).below hb);have B4:=hide (below_sub (uh B3) hb);have L4:=hide (Array.getElem?_eq_some_iff.1 (uh X4)).1;clear hb;unfold zVal)
    | (go_at_call 18;have hk:=kinds_any b _ (by decide) _ _ _ (uh I5) (uh S5) (by decide);rw [knA] at hk;refine hk.mono ?_;rintro e w6 ⟨rfl,hb⟩;have B6:=hide hb;clear hb hk)
  go_ret
  exact ⟨rfl,below_sub (uh B5) (uh B6)⟩
end Go.Proofs.YtencibjmiphinaaGreatDoor
namespace Go.Proofs.YtencibjmiphinaaGreatDoor
open Go.RowKit Go.Sort

def zNv:Nv:=⟨0,⟨#[]⟩,none,0,0,none,0,0,0,0,0,none,0,0⟩
theorem zIn (w:World):NdIn w zNv zeroT:=NdIn.make (ints:=[]) (words:=[]) (kids:=[]) (SlOf.none _) (SlOf.none _) ⟨[],SlOf.none _,rfl,fun j v x h=>by simp at h⟩
theorem zOk:OkN zeroT:=.mk (by simp) (by simp) (by simp) (fun x h=>by cases h)
theorem G_on {w w':World} (h:Lx.G w) (hb:RowKit.Below w.heap.size w w'):Lx.G w':=Lx.G_below h hb
/-- Parse, told by one node: what it answers and its tree. -/
def PrN (w:World) (x:Rs Nd) (e:Ending) (w':World) (v:Nv) (t:Nd) (p c:Int):Prop:=e=.returned (.tuple #[v.val,.int .i64 p,.int .i64 c])∧NdIn w' v t∧RowKit.Below w.heap.size w w'∧(match x with
  | .bad q=>p=q∧c=10∧t=zeroT
  | .ok y _=>p=0∧c=0∧t=y)
theorem PrR.one {w w':World} {x:Rs Nd} {e:Ending} (h:PrR w x e w'):∃ v t p c,PrN w x e w' v t p c:=by
  cases x with
  | bad q=>exact ⟨zNv,zeroT,q,10,h.1,zIn _,h.2,rfl,rfl,rfl⟩
  | ok y r =>
    obtain ⟨⟨v,he,hv⟩,hb⟩:=h
    exact ⟨v,y,0,0,he,hv.toIn,hb,rfl,rfl,rfl⟩
/-- The node, place and error, read off what Parse answers. -/
def prT:Rs Nd→Nd
  | .bad _=>zeroT
  | .ok y _=>y
def prP:Rs Nd→Int
  | .bad q=>q
  | .ok _ _=>0
def prC:Rs Nd→Int
  | .bad _=>10
  | .ok _ _=>0
theorem PrR.said {w w':World} {x:Rs Nd} {e:Ending} (h:PrR w x e w'):∃ v,e=.returned (.tuple #[v.val,.int .i64 (prP x),.int .i64 (prC x)])∧NdIn w' v (prT x)∧RowKit.Below w.heap.size w w':=by
  cases x with
  | bad q=>exact ⟨zNv,h.1,zIn _,h.2⟩
  | ok y r =>
    obtain ⟨⟨v,he,hv⟩,hb⟩:=h
    exact ⟨v,he,hv.toIn,hb⟩
end Go.Proofs.YtencibjmiphinaaGreatDoor
namespace Go.Proofs.YtencibjmiphinaaGreatDoor.Sc
open Go.RowKit Go.Sort Go.Shelf

theorem flat_app {α:Type} [Inhabited α] (enc:α→List Value) (k:Nat) (hk:0 < k) (l m:List α):(flatK enc k (l ++ m).toArray).toList=(flatK enc k l.toArray).toList ++ (flatK enc k m.toArray).toList:=by
  unfold flatK
  simp only [Array.toList_map,Array.toList_range,List.size_toArray,List.length_append,Nat.add_mul]
  rw [List.range_add,List.map_append,List.map_map]
  congr 1
  · apply List.map_congr_left
    intro t ht
    have ht':t < l.length * k:=by simpa using ht
    have hq:t / k < l.length:=(Nat.div_lt_iff_lt_mul hk).2 ht'
    rw [getElem!_pos _ (t / k) (by simp;omega),getElem!_pos _ (t / k) (by simpa using hq)]
    simp [List.getElem_append_left hq]
  · apply List.map_congr_left
    intro t ht
    have ht':t < m.length * k:=by simpa using ht
    have hq:t / k < m.length:=(Nat.div_lt_iff_lt_mul hk).2 ht'
    have e1:(l.length * k + t) / k=l.length + t / k:=by rw [Nat.mul_comm,Nat.mul_add_div hk]
    have e2:(l.length * k + t) % k=t % k:=by rw [Nat.mul_comm,Nat.mul_add_mod]
    simp only [Function.comp_apply,e1,e2]
    rw [getElem!_pos _ (l.length + t / k) (by simp;omega),getElem!_pos _ (t / k) (by simpa using hq)]
    simp

/-- The slice q of the call's own, in memory from B on, holds the list l. -/
def OwnK {α:Type} [Inhabited α] (enc:α→List Value) (e:TypeId) (k B:Nat) (w:World) (q:Option Addr) (cap:Nat) (l:List α):Prop :=
  w.ownsRow B e k (.slice q l.length cap) l.length (flatK enc k l.toArray).toList
structure RowOf {α:Type} [Inhabited α] (enc:α→List Value) (t e:TypeId) (k bytes:Nat):Prop where
  und:Tryz.prog.underlying t=some (.slice e)
  info:∃ i0 z,Tryz.prog.info? e=some i0∧i0.zero=some z∧i0.size=k∧i0.bytes=bytes∧z.cells.size=k
  pos:0 < k
  one:∀ (l:List α),∀ u ∈ (flatK enc k l.toArray).toList,u.oneCell'=true
theorem one_flat {α:Type} [Inhabited α] {enc:α→List Value} {k:Nat} (h:∀ (x:α) (c:Nat),c < k→((enc x)[c]!).oneCell'=true) (hk:0 < k) (l:List α):∀ u ∈ (flatK enc k l.toArray).toList,u.oneCell'=true:=by
  intro u hu
  rw [Array.mem_toList_iff] at hu
  obtain ⟨j,hj,rfl⟩:=Array.mem_iff_getElem.1 hu
  have hg:=get_flatK enc k l.toArray j (by simpa using hj)
  rw [getElem!_pos _ j hj] at hg
  rw [hg]
  exact h _ _ (Nat.mod_lt _ hk)
theorem rowA:RowOf encA 35 62 2 24 where
  und:=Tryz.underlying35
  info:=by
    obtain ⟨i0,hi,hz0,hz1,hz2⟩:=info_parts Tryz.info62
    exact ⟨i0,_,hi,hz0,hz1,hz2,rfl⟩
  pos:=by decide
  one:=one_flat (fun x c hc=>by
    have hm:c=0 ∨ c=1:=by omega
    rcases hm with e | e <;> rw [e] <;> rfl) (by decide)
/-- What is appended. -/
def SrcK {α:Type} [Inhabited α] (enc:α→List Value) (k:Nat) (w:World) (p:Option Addr) (c:Nat) (l:List α):Prop :=
  (p=none→l.length=0∧c=0)∧∀ ad,p=some ad→∀ (j:Nat) (u:Value),(flatK enc k l.toArray).toList[j]? = some u→w.cell? (ad.add j)=some u
theorem add_plain (b o j:Nat):(⟨b,o,none⟩:Addr).add j=⟨b,o + j,none⟩:=by unfold Addr.add;split <;> simp_all
theorem SrcK.ofA {w:World} {p:Option Addr} {c:Nat} {l:List (ByteArray × Int)} (hp:p=none→l.length=0∧c=0) (hA:AtsOf w p l):SrcK encA 2 w p c l:=by
  refine ⟨hp,fun ad e j u hj=>?_⟩
  have h0:0 < l.length:=by
    rw [Array.getElem?_toList] at hj
    obtain ⟨hs,_⟩:=Array.getElem?_eq_some_iff.1 hj
    simp at hs;omega
  obtain ⟨b,off,hq,_,hAt⟩:=hA h0
  rw [e] at hq
  cases hq
  rw [add_plain]
  exact hAt.flat j u hj
theorem OwnK.shape {w:World} {B:Nat} {e:TypeId} {k:Nat} {v:Value} {n:Nat} {xs:List Value} (h:w.ownsRow B e k v n xs):∃ q cap,v=.slice q n cap∧(q=none→v=.slice none 0 0):=by
  rcases h.2 with ⟨rfl,rfl⟩ | ⟨g,cap,_,rfl,_⟩
  · exact ⟨none,0,rfl,fun _=>rfl⟩
  · exact ⟨_,cap,rfl,fun h=>by cases h⟩

section
variable {α : Type} [Inhabited α] {enc : α → List Value} {t e : TypeId} {k bytes : Nat}
theorem run_app (R:RowOf enc t e k bytes) (ty:TypeId) (w:World) (B:Nat) (q:Option Addr) (cap:Nat) (l:List α) (p:Option Addr) (c:Nat) (m:List α) (hown:OwnK enc e k B w q cap l) (hs:SrcK enc k w p c m) (hm:l.length + m.length≤maxLen) (hb:(l.length + m.length) * bytes≤140737488355328) (hB:B≤w.heap.size) :
    ∃ q' cap' w',(Builtin.append_ #[t,t] ty #[.slice q l.length cap,.slice p m.length c]).run Tryz.prog w=.ok (.slice q' (l.length + m.length) cap') w'∧OwnK enc e k B w' q' cap' (l ++ m)∧Below B w w'∧(q ≠ none→q' ≠ none)∧w.grownBy w' (Value.slice q l.length cap).ownBlock:=by
  obtain ⟨i0,z,hi,hz,hsz,hby,hzs⟩:=R.info
  cases p with
  | none =>
    obtain ⟨h0,rfl⟩:=hs.1 rfl
    obtain rfl:m=[]:=List.length_eq_zero_iff.1 h0
    have hr:=run_append_owned_none (P:=Tryz.prog) (w:=w) B t ty e i0 k R.und hi _ _ _ hown
    exact ⟨q,cap,w,hr,by simpa using hown,Below.refl _ _,id,⟨rfl,rfl,rfl,Nat.le_refl _,fun _ _ _=>rfl⟩⟩
  | some ad =>
    obtain ⟨v',w',hr,ho,hg,hnil,_⟩:=run_append_own_at (P:=Tryz.prog) w B t ty e i0 z k bytes R.und hi hz hsz hby hzs R.pos _ _ _ hown ad m.length c (flatK enc k m.toArray).toList (by simp) (hs.2 ad rfl) (R.one m) hm hb hB
    obtain ⟨q',cap',rfl,hq⟩:=OwnK.shape ho
    refine ⟨q',cap',w',hr, ?_, ?_, ?_,hg⟩
    · unfold OwnK
      rw [flat_app enc k R.pos,List.length_append]
      exact ho
    · exact (Below.refl _ _).grown hg hB fun j hj=>(World.ownsRow.lt hown j hj).1
    · intro hne he
      have:=(hnil.1 (hq he)).1
      injection this with h0
      exact hne h0
theorem wp_app0 (R:RowOf enc t e k bytes) {o:Oper} {a:Act} {w:World} {K:Act→World→Prop} {Q:Exit→Act→World→Prop} (s x:Operand)
    (ho:o.op=.call { callee:=.builtin .append,args:=#[s,x],argTypes:=#[t,t] }) (B:Nat) (q:Option Addr) (cap:Nat) (l:List α) (p:Option Addr) (c:Nat) (m:List α)
    (es:a.eval s=.slice q l.length cap) (ex:a.eval x=.slice p m.length c) (hown:OwnK enc e k B w q cap l) (hs:SrcK enc k w p c m) (hm:l.length + m.length≤maxLen) (hb:(l.length + m.length) * bytes≤140737488355328) (hB:B≤w.heap.size)
    (h:∀ q' cap' w',OwnK enc e k B w' q' cap' (l ++ m)→Below B w w'→(q ≠ none→q' ≠ none)→w.grownBy w' (Value.slice q l.length cap).ownBlock→K (a.put o.dst (.slice q' (l.length + m.length) cap')) w'):o.wp Tryz.prog a w K Q:=by
  obtain ⟨q',cap',w',hr,h2,h3,h4,h5⟩:=run_app R o.type w B q cap l p c m hown hs hm hb hB
  unfold Oper.wp execOp
  simp only [ho,resolve,invoke,builtin,Sem.run_bind,Sem.run_pure,Result.andThen_ok,List.map_toArray,List.map_cons,List.map_nil,es,ex,hr]
  exact h q' cap' w' h2 h3 h4 h5
theorem wp_app (R:RowOf enc t e k bytes) {o:Oper} {a:Act} {w:World} {K:Act→World→Prop} {Q:Exit→Act→World→Prop} (s x:Operand)
    (ho:o.op=.call { callee:=.builtin .append,args:=#[s,x],argTypes:=#[t,t] }) (B:Nat) (q:Option Addr) (cap:Nat) (l:List α) (p:Option Addr) (c:Nat) (m:List α) (n n' N:Nat) (hn:l.length=n) (hn':m.length=n') (hN:n + n'=N)
    (es:a.eval s=.slice q n cap) (ex:a.eval x=.slice p n' c) (hown:OwnK enc e k B w q cap l) (hs:SrcK enc k w p c m) (hm:N≤maxLen) (hb:N * bytes≤140737488355328) (hB:B≤w.heap.size)
    (h:∀ q' cap' w',OwnK enc e k B w' q' cap' (l ++ m)→Below B w w'→(q ≠ none→q' ≠ none)→w.grownBy w' (Value.slice q n cap).ownBlock→K (a.put o.dst (.slice q' N cap')) w'):o.wp Tryz.prog a w K Q:=by
  subst hn hn' hN
  exact wp_app0 R s x ho B q cap l p c m es ex hown hs hm hb hB h
theorem wpList_app (R:RowOf enc t e k bytes) {ops:Array Oper} {rest:List Oper} {o:Oper} {a:Act} {w:World} {Q:Exit→Act→World→Prop} (hgd:o.guard=none) (s x:Operand)
    (ho:o.op=.call { callee:=.builtin .append,args:=#[s,x],argTypes:=#[t,t] }) (B:Nat) (q:Option Addr) (cap:Nat) (l:List α) (p:Option Addr) (c:Nat) (m:List α) (n n' N:Nat) (hn:l.length=n) (hn':m.length=n') (hN:n + n'=N)
    (es:a.eval s=.slice q n cap) (ex:a.eval x=.slice p n' c) (hown:OwnK enc e k B w q cap l) (hs:SrcK enc k w p c m) (hm:N≤maxLen) (hb:N * bytes≤140737488355328) (hB:B≤w.heap.size)
    (h:∀ q' cap' w',OwnK enc e k B w' q' cap' (l ++ m)→Below B w w'→(q ≠ none→q' ≠ none)→w.grownBy w' (Value.slice q n cap).ownBlock→wpList Tryz.prog ops Q rest (a.put o.dst (.slice q' N cap')) w'):wpList Tryz.prog ops Q (o :: rest) a w :=
  wpList_plain hgd fun _ hK=>wp_app R s x ho B q cap l p c m n n' N hn hn' hN es ex hown hs hm hb hB fun q' cap' w' h2 h3 h4 h5=>hK _ _ (h q' cap' w' h2 h3 h4 h5)
theorem step_app (R:RowOf enc t e k bytes) {ops:Array Oper} {o:Oper} {a:Act} {w:World} {K:Act→World→Prop} {Q:Exit→Act→World→Prop} {E:Prop} (hgd:o.guard=none) (s x:Operand)
    (ho:o.op=.call { callee:=.builtin .append,args:=#[s,x],argTypes:=#[t,t] }) (B:Nat) (q:Option Addr) (cap:Nat) (l:List α) (p:Option Addr) (c:Nat) (m:List α) (n n' N:Nat) (hn:l.length=n) (hn':m.length=n') (hN:n + n'=N)
    (es:a.eval s=.slice q n cap) (ex:a.eval x=.slice p n' c) (hown:OwnK enc e k B w q cap l) (hs:SrcK enc k w p c m) (hm:N≤maxLen) (hb:N * bytes≤140737488355328) (hB:B≤w.heap.size)
    (h:∀ q' cap' w',OwnK enc e k B w' q' cap' (l ++ m)→Below B w w'→(q ≠ none→q' ≠ none)→w.grownBy w' (Value.slice q n cap).ownBlock→K (a.put o.dst (.slice q' N cap')) w') :
    if Region.wanted o (yielded ops a.tmps)=true then Oper.wp Tryz.prog o a w K Q else E:=by
  have hw:Region.wanted o (yielded ops a.tmps)=true:=by simp [Region.wanted,hgd]
  rw [if_pos hw]
  exact wp_app R s x ho B q cap l p c m n n' N hn hn' hN es ex hown hs hm hb hB h
theorem OwnK.below {B:Nat} {w w':World} {q:Option Addr} {cap:Nat} {l:List α} (h:OwnK enc e k B w q cap l) (hb:Below w.heap.size w w'):OwnK enc e k B w' q cap l:=by
  refine ⟨h.1, ?_⟩
  rcases h.2 with h0 | ⟨g,cp,cur,hv,hB,hblk,hr⟩
  · exact Or.inl h0
  · have hg:g < w.heap.size:=(Array.getElem?_eq_some_iff.1 hblk).1
    exact Or.inr ⟨g,cp,cur,hv,hB,(hb.block g hg).trans hblk,hr⟩
theorem OwnK.mono {B B':Nat} {w:World} {q:Option Addr} {cap:Nat} {l:List α} (h:OwnK enc e k B w q cap l) (hb:B'≤B):OwnK enc e k B' w q cap l:=by
  refine ⟨h.1, ?_⟩
  rcases h.2 with h0 | ⟨g,cp,cur,hv,hB,hr⟩
  · exact Or.inl h0
  · exact Or.inr ⟨g,cp,cur,hv,Nat.le_trans hb hB,hr⟩
theorem OwnK.nil (B:Nat) (w:World):OwnK enc e k B w none 0 ([]:List α):=by
  have:(flatK enc k ([]:List α).toArray).toList=[]:=by simp [flatK]
  unfold OwnK;rw [this];exact World.ownsRow_nil w B e k
theorem OwnK.made (B:Nat) (w:World) (hB:B≤w.heap.size):OwnK enc e k B (w.alloc (.cells #[] e)) (some ⟨w.heap.size,0,none⟩) 0 ([]:List α):=by
  have:(flatK enc k ([]:List α).toArray).toList=[]:=by simp [flatK]
  unfold OwnK;rw [this];exact World.ownsRow_made w #[] 0 hB (Nat.zero_le _) (by simp)
end
theorem OwnK.newA {B:Nat} {w:World} {q:Option Addr} {cap:Nat} {l:List (ByteArray × Int)} (h:OwnK encA 62 2 B w q cap l):NewA B w q cap l:=by
  by_cases hv:(Value.slice q l.length cap)=.slice none 0 0
  · cases q with
    | none =>
      injection hv with _ h1 h2
      exact Or.inl ⟨rfl,List.length_eq_zero_iff.1 h1,h2⟩
    | some a=>injection hv with h0;cases h0
  · obtain ⟨g,cap',hv',hB,hg,hH,hc⟩:=holds_own (d:=l.toArray) (enc:=encA) hv (by simpa [OwnK] using h)
    injection hv' with h0 h1 h2
    subst h2
    exact Or.inr ⟨g,h0,hB,hg,hH,by simpa using hc⟩
theorem NewA.none {B:Nat} {w:World} {q:Option Addr} {cap:Nat} {l:List (ByteArray × Int)} (h:NewA B w q cap l):q=none→l.length=0∧cap=0:=by
  intro e
  rcases h with ⟨_,rfl,h2⟩ | ⟨g,h2,_⟩
  · exact ⟨rfl,h2⟩
  · rw [e] at h2;cases h2
theorem NewP.none {B:Nat} {w:World} {q:Option Addr} {cap:Nat} {l:List (ByteArray × Int × Int × ByteArray)} (h:NewP B w q cap l):q=none→l.length=0∧cap=0:=by
  intro e
  rcases h with ⟨_,rfl,h2⟩ | ⟨g,h2,_⟩
  · exact ⟨rfl,h2⟩
  · rw [e] at h2;cases h2
theorem PrsAt.drop {w:World} {b off:Nat} {l:List (ByteArray × Int × Int × ByteArray)} (h:PrsAt w b off l) (k:Nat):PrsAt w b (off + k * 4) (l.drop k):=fun j x hj=>by
  rw [List.getElem?_drop] at hj
  have:=h (k + j) x hj
  rw [show off + k * 4 + j * 4=off + (k + j) * 4 by omega]
  exact this
theorem PrsAt.take {w:World} {b off:Nat} {l:List (ByteArray × Int × Int × ByteArray)} (h:PrsAt w b off l) (k:Nat):PrsAt w b off (l.take k):=fun j x hj=>by
  rw [List.getElem?_take] at hj
  split at hj
  · exact h j x hj
  · cases hj
theorem AtsAt.drop {w:World} {b off:Nat} {l:List (ByteArray × Int)} (h:AtsAt w b off l) (k:Nat):AtsAt w b (off + k * 2) (l.drop k):=fun j x hj=>by
  rw [List.getElem?_drop] at hj
  have:=h (k + j) x hj
  rw [show off + k * 2 + j * 2=off + (k + j) * 2 by omega]
  exact this
theorem AtsAt.take {w:World} {b off:Nat} {l:List (ByteArray × Int)} (h:AtsAt w b off l) (k:Nat):AtsAt w b off (l.take k):=fun j x hj=>by
  rw [List.getElem?_take] at hj
  split at hj
  · exact h j x hj
  · cases hj
end Go.Proofs.YtencibjmiphinaaGreatDoor.Sc

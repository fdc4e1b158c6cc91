/- What push.Sum and push.Product return. -/
import Derived.Test.YtikhopiegaoacacDForm
namespace Go.Proofs.Ytikhopiegaoacac
open Go.RowKit Go.Sort

def bnd (m:Int):Int:=min (max m 0) 4611686018427387904
def sumGo (M:Int):List Int→Int→Int
 | [],s=>s
 | x :: xs,s=>if M - s < x then M + 1 else sumGo M xs (s + max x 0)
def prodGo (M:Int):List Int→Int→Int
 | [],p=>p
 | x :: xs,p=>if M.tdiv x < p then M + 1 else prodGo M xs (p * x)
/-- The sum, cut behind most. -/
def sumB (m:Int) (l:List Int):Int:=sumGo (bnd m) l 0
/-- The product, cut behind most. -/
def prodB (m:Int) (l:List Int):Int:=if l.any (fun x=>decide (x≤0)) then 0 else prodGo (bnd m) l 1
theorem bnd_ge (m:Int):0≤bnd m:=by unfold bnd;omega
theorem bnd_le (m:Int):bnd m≤4611686018427387904:=by unfold bnd;omega
theorem wrap_of (x:Int) (h0:-9223372036854775808≤x) (h1:x < 9223372036854775808):IntKind.i64.wrap x=x:=by
 have e:(2:Int) ^ IntKind.i64.bits=18446744073709551616:=by decide
 have e2:(2:Int) ^ (IntKind.i64.bits - 1)=9223372036854775808:=by decide
 have es:IntKind.i64.signed=true:=rfl
 simp [IntKind.wrap,e,e2,es]
 split <;> omega
theorem bounded_any (m:Int) (w:World):Calls Try.prog 62 #[.int .i64 m] w fun e w'=>e=.returned (.int .i64 (bnd m))∧w'=w:=by
 go_enter Try.func62,Try.ntmps62
 go_wp2
 go_ret
 exact ⟨by simp [bnd],rfl⟩
theorem isNone_any (x:Int) (w:World):Calls Try.prog 64 #[.int .i64 x] w fun e w'=>e=.returned (.bool (decide (x≤0)))∧w'=w:=by
 go_enter Try.func64,Try.ntmps64
 go_wp2
 go_ret
 exact ⟨rfl,rfl⟩
set_option maxHeartbeats 4000000 in
theorem indexNone (q:Option Addr) (c:Nat) (l:List Int) (w:World) (h:SlOf encI 1 w q c l) (hl:l.length≤1000000000000000000) :
  Calls Try.prog 75 #[.slice q l.length c,.func (.func 64) #[] #[]] w fun e w'=>(∃ n:Int,e=.returned (.int .i64 n)∧decide (0≤n)=l.any (fun x=>decide (x≤0)))∧Below w.heap.size w w':=by
 have HA:=hide h
 have a0:(l.length:Int)≤1000000000000000000:=by omega
 clear h
 go_enter Try.func75,Try.ntmps75
 go_wp2
 go_loopw [8] (fun i wr=>∃ k:Nat,k≤l.length∧i=.int .i64 k∧(∀ (j:Nat) (x:Int),j < k→l[j]? = some x→0 < x)∧Below w.heap.size w wr) (fun i _=>l.length - (intOf i).toNat)
 case atStart=>exact ⟨0,by omega,rfl,fun j x h=>absurd h (by omega),Below.refl _ _⟩
 case round =>
  obtain ⟨k,hk,rfl,hall,hbel⟩:=hrel
  have HALL:=hide hall
  have HB:=hide hbel
  by_cases hlt:k < l.length
  ·obtain ⟨x,hx,hxd⟩:=get_at hlt
   obtain ⟨b,off,hq,hb,hc⟩:=intsAt (uh HA) hx
   subst hq
   have g:=(hbel.cell (p:=⟨b,off + k,none⟩) hb).trans hc
   have ki0:(0:Int)≤(k:Int):=by omega
   have ki1:(k:Int) < (l.length:Int):=by omega
   have hn:=fun w=>isNone_any x w
   have HX:=hide hx
   by_cases hx0:x≤0
   ·have d:decide (x≤0)=true:=by simp [hx0]
    rw [d] at hn
    clear hall hbel hxd hx hc d
    go_wp2_with (go_at_call 64;refine (hn _).mono ?_;rintro e w2 ⟨rfl,hw2⟩;subst hw2)
    go_ret
    refine ⟨⟨k,rfl, ?_⟩,uh HB⟩
    have:l.any (fun x=>decide (x≤0))=true:=List.any_eq_true.2 ⟨x,List.mem_of_getElem? (uh HX),by simp [hx0]⟩
    rw [this];simp
   ·have d:decide (x≤0)=false:=by simp [hx0]
    rw [d] at hn
    clear hall hbel hxd hx hc d
    go_wp2_with (go_at_call 64;refine (hn _).mono ?_;rintro e w2 ⟨rfl,hw2⟩;subst hw2)
    go_roundw
    case rel =>
     refine ⟨k + 1,by omega,by go_num,fun j y hj hy=>?_,uh HB⟩
     by_cases e:j=k
     ·subst e;rw [uh HX] at hy;cases hy;omega
     ·exact uh HALL j y (by omega) hy
    case measure=>simp [intOf];omega
  ·have ki1:¬ (k:Int) < (l.length:Int):=by omega
   clear hall hbel
   go_wp2
   go_ret
   refine ⟨⟨-1,rfl, ?_⟩,uh HB⟩
   have:l.any (fun x=>decide (x≤0))=false:=by
    rw [List.any_eq_false]
    intro x hx
    obtain ⟨j,hj⟩:=List.getElem?_of_mem hx
    have:=uh HALL j x (by have:=(List.getElem?_eq_some_iff.1 hj).1;omega) hj
    simp;omega
   rw [this];simp
theorem containsNone (q:Option Addr) (c:Nat) (l:List Int) (w:World) (h:SlOf encI 1 w q c l) (hl:l.length≤1000000000000000000) :
  Calls Try.prog 63 #[.slice q l.length c,.func (.func 64) #[] #[]] w fun e w'=>e=.returned (.bool (l.any (fun x=>decide (x≤0))))∧Below w.heap.size w w':=by
 have hi:=indexNone q c l w h hl
 go_enter Try.func63,Try.ntmps63
 go_wp2_with (go_at_call 75;refine hi.mono ?_;rintro e w2 ⟨⟨n,rfl,hn⟩,b2⟩;have B2:=hide b2;have HN:=hide hn;clear b2 hn)
 go_ret
 exact ⟨by rw [← uh HN];simp,uh B2⟩
set_option maxHeartbeats 4000000 in
theorem sum_any (m:Int) (q:Option Addr) (c:Nat) (l:List Int) (w:World) (h:SlOf encI 1 w q c l) (hl:l.length≤1000000000000000000) :
  Calls Try.prog 40 #[.int .i64 m,.slice q l.length c] w fun e w'=>e=.returned (.int .i64 (sumB m l))∧Below w.heap.size w w':=by
 have HA:=hide h
 have a0:(l.length:Int)≤1000000000000000000:=by omega
 have hb:=fun w=>bounded_any m w
 have h0:=bnd_ge m
 have h1:=bnd_le m
 unfold sumB
 obtain ⟨M,hM⟩:∃ M,bnd m=M:=⟨_,rfl⟩
 rw [hM] at hb h0 h1
 rw [hM]
 clear h hM
 go_enter Try.func40,Try.ntmps40
 go_wp2_with (go_at_call 62;refine (hb _).mono ?_;rintro e w2 ⟨rfl,hw2⟩;subst hw2)
 go_loopw [5,12] (fun sv i wr=>∃ (k:Nat) (s:Int),k≤l.length∧i=.int .i64 k∧sv=.int .i64 s∧0≤s∧s≤M∧sumGo M (l.drop k) s=sumGo M l 0∧Below w2.heap.size w2 wr) (fun _ i _=>l.length - (intOf i).toNat)
 case atStart=>exact ⟨0,0,by omega,rfl,rfl,Int.le_refl _,h0,rfl,Below.refl _ _⟩
 case round =>
  obtain ⟨k,s,hk,rfl,rfl,s0,s1,heq,hbel⟩:=hrel
  have HB:=hide hbel
  by_cases hlt:k < l.length
  ·obtain ⟨x,hx,hxd⟩:=get_at hlt
   obtain ⟨b,off,hq,hb,hc⟩:=intsAt (uh HA) hx
   subst hq
   have g:=(hbel.cell (p:=⟨b,off + k,none⟩) hb).trans hc
   have ki0:(0:Int)≤(k:Int):=by omega
   have ki1:(k:Int) < (l.length:Int):=by omega
   rw [hxd] at heq
   have w1:IntKind.i64.wrap (M - s)=M - s:=wrap_of _ (by omega) (by omega)
   by_cases hgt:M - s < x
   ·simp only [sumGo,if_pos hgt] at heq
    have w2:IntKind.i64.wrap (M + 1)=M + 1:=wrap_of _ (by omega) (by omega)
    have HE:=hide heq
    clear heq hbel hxd hx hc
    go_wp2
    go_ret
    exact ⟨by rw [← uh HE];rfl,uh HB⟩
   ·simp only [sumGo,if_neg hgt] at heq
    have w2:IntKind.i64.wrap (s + max x 0)=s + max x 0:=wrap_of _ (by omega) (by omega)
    have HE:=hide heq
    clear heq hbel hxd hx hc
    go_wp2
    go_roundw
    case rel=>exact ⟨k + 1,s + max x 0,by omega,by go_num,rfl,by omega,by omega,uh HE,uh HB⟩
    case measure=>simp [intOf];omega
  ·have ki1:¬ (k:Int) < (l.length:Int):=by omega
   rw [List.drop_of_length_le (by omega)] at heq
   have HE:=hide heq
   clear heq hbel
   go_wp2
   go_ret
   exact ⟨by rw [← uh HE];rfl,uh HB⟩
theorem prod_step {M p x:Int} (hM:0≤M) (hp:1≤p) (hx:0 < x) (h:¬ M.tdiv x < p):1≤p * x∧p * x≤M:=by
 have hle:p≤M.tdiv x:=by omega
 have h2:M.tdiv x * x≤M:=by
  rw [Int.tdiv_eq_ediv_of_nonneg hM];exact Int.ediv_mul_le M (by omega)
 refine ⟨?_,Int.le_trans (Int.mul_le_mul_of_nonneg_right hle (by omega)) h2⟩
 have:=Int.mul_le_mul hp (show (1:Int)≤x by omega) (by omega) (by omega)
 omega
set_option maxHeartbeats 4000000 in
theorem prod_any (m:Int) (q:Option Addr) (c:Nat) (l:List Int) (w:World) (h:SlOf encI 1 w q c l) (hl:l.length≤1000000000000000000) :
  Calls Try.prog 41 #[.int .i64 m,.slice q l.length c] w fun e w'=>e=.returned (.int .i64 (prodB m l))∧Below w.heap.size w w':=by
 have HA:=hide h
 have a0:(l.length:Int)≤1000000000000000000:=by omega
 have hb:=fun w=>bounded_any m w
 have h0:=bnd_ge m
 have h1:=bnd_le m
 have hcn:=containsNone q c l w h hl
 unfold prodB
 obtain ⟨M,hM⟩:∃ M,bnd m=M:=⟨_,rfl⟩
 rw [hM] at hb h0 h1
 rw [hM]
 clear h hM
 cases han:l.any (fun x=>decide (x≤0)) with
 | true =>
  rw [han] at hcn
  simp only [if_true]
  go_enter Try.func41,Try.ntmps41
  go_wp2_with (first
   | (go_at_call 62;refine (hb _).mono ?_;rintro e w2 ⟨rfl,hw2⟩;subst hw2)
   | (go_at_call 63;refine hcn.mono ?_;rintro e w3 ⟨rfl,b3⟩;have B3:=hide b3;clear b3))
  go_ret
  exact ⟨rfl,uh B3⟩
 | false =>
  rw [han] at hcn
  have hpos:∀ (j:Nat) (x:Int),l[j]? = some x→0 < x:=fun j x hj=>by
   have:=(List.any_eq_false.1 han) x (List.mem_of_getElem? hj)
   simp at this;omega
  have HP:=hide hpos
  clear hpos han
  simp only [Bool.false_eq_true,if_false]
  go_enter Try.func41,Try.ntmps41
  go_wp2_with (first
   | (go_at_call 62;refine (hb _).mono ?_;rintro e w2 ⟨rfl,hw2⟩;subst hw2)
   | (go_at_call 63;refine hcn.mono ?_;rintro e w3 ⟨rfl,b3⟩;have B3:=hide b3;clear b3))
  clear hcn
  go_loopw [5,14] (fun pv i wr=>∃ (k:Nat) (p:Int),k≤l.length∧i=.int .i64 k∧pv=.int .i64 p∧1≤p∧p≤max M 1∧prodGo M (l.drop k) p=prodGo M l 1∧Below w2.heap.size w2 wr) (fun _ i _=>l.length - (intOf i).toNat)
  case atStart=>exact ⟨0,1,by omega,rfl,rfl,Int.le_refl _,by omega,rfl,uh B3⟩
  case round =>
   obtain ⟨k,p,hk,rfl,rfl,s0,s1,heq,hbel⟩:=hrel
   have HB:=hide hbel
   by_cases hlt:k < l.length
   ·obtain ⟨x,hx,hxd⟩:=get_at hlt
    obtain ⟨b,off,hq,hb,hc⟩:=intsAt (uh HA) hx
    subst hq
    have g:=(hbel.cell (p:=⟨b,off + k,none⟩) hb).trans hc
    have ki0:(0:Int)≤(k:Int):=by omega
    have ki1:(k:Int) < (l.length:Int):=by omega
    rw [hxd] at heq
    have x0:=uh HP k x hx
    have xn:¬ x=0:=by omega
    obtain ⟨D,hD⟩:∃ D,M.tdiv x=D:=⟨_,rfl⟩
    have D0:0≤D∧D≤M:=by
     rw [← hD,Int.tdiv_eq_ediv_of_nonneg h0]
     exact ⟨Int.ediv_nonneg h0 (by omega),Int.ediv_le_self x h0⟩
    have w1:IntKind.i64.wrap D=D:=wrap_of _ (by omega) (by omega)
    by_cases hgt:D < p
    ·simp only [prodGo,hD,if_pos hgt] at heq
     have w2:IntKind.i64.wrap (M + 1)=M + 1:=wrap_of _ (by omega) (by omega)
     have HE:=hide heq
     clear heq hbel hxd hx hc
     go_wp2
     go_ret
     exact ⟨by rw [← uh HE];rfl,uh HB⟩
    ·have hps:=prod_step h0 s0 x0 (by rw [hD];exact hgt)
     simp only [prodGo,hD,if_neg hgt] at heq
     obtain ⟨Z,hZ⟩:∃ Z,p * x=Z:=⟨_,rfl⟩
     rw [hZ] at hps heq
     have w2:IntKind.i64.wrap Z=Z:=wrap_of _ (by omega) (by omega)
     have HE:=hide heq
     clear heq hbel hxd hx hc
     go_wp2
     go_roundw
     case rel=>exact ⟨k + 1,Z,by omega,by go_num,rfl,by omega,by omega,uh HE,uh HB⟩
     case measure=>simp [intOf];omega
   ·have ki1:¬ (k:Int) < (l.length:Int):=by omega
    rw [List.drop_of_length_le (by omega)] at heq
    have HE:=hide heq
    clear heq hbel
    go_wp2
    go_ret
    exact ⟨by rw [← uh HE];rfl,uh HB⟩
end Go.Proofs.Ytikhopiegaoacac

/- The whole text's tree hangs on the tokens alone; where the parser gives up, it does so whatever stands behind. -/
import Derived.Test.YtencibjmiphinaaGreatDoorEPaLoc
import Derived.Test.YtencibjmiphinaaGreatDoorEPaWh
import Derived.Test.YtencibjmiphinaaGreatDoorELxLexAt
import Derived.Test.YtencibjmiphinaaGreatDoorEZas
namespace Go.Proofs.YtencibjmiphinaaGreatDoor
open Go.RowKit

theorem whL_P (en:Int) (l:List Tk):whL en l=match orP en l with
 | .bad p=>.bad p
 | .ok x []=>.ok x []
 | .ok _ (t :: _)=>.bad t.2.1:=by
 unfold whL;rw [orL_P (Nat.lt_succ_self _)]
 cases orP en l with
 | bad p=>rfl
 | ok x r=>cases r <;> rfl
end Go.Proofs.YtencibjmiphinaaGreatDoor
namespace Go.Proofs.YtencibjmiphinaaGreatDoor.Lx
open Go.RowKit

theorem okB_cases {c:Int} {a b d:Bool} (ha:isLet c=a) (hb:isDig c=b) (hd:(c == 95)=d):okB c=(a || b || d):=by unfold okB;rw [ha,hb,hd]
set_option maxHeartbeats 2000000 in
theorem rt_name (s:ByteArray) (i:Nat) (w:World) (hi:i < s.size) (hs:s.size≤1000000) (hL:isLet (s[i].toNat:Int)=true) (j:Nat) (hj:i + rl okB (s.data.toList.drop i)=j) (b:Bool) (hn:nameOk (s.extract i j)=b) :
  Calls Tryz.prog 55 #[.string s,.int .i64 i] w fun e w'=>e=.returned (.tuple #[.agg #[.int .i64 1,.int .i64 i,.int .i64 j,.int .i64 0,.string (s.extract i j)],.bool b])∧Below w.heap.size w w':=by
 have a0:(0:Int)≤(i:Int):=by omega
 have a1:(i:Int) < (s.size:Int):=by omega
 have a2:(s.size:Int)≤1000000:=by omega
 have HJ:=hide (show i + 1 + rl okB (s.data.toList.drop (i + 1))=j by
  rw [← hj,drop_at s i hi,rl_yes (let_ok hL)];omega)
 have hl:=fun w=>refLet_any (s[i].toNat:Int) w
 rw [hL] at hl
 have hnm:=fun w=>refName_any (s.extract i j) w
 rw [hn] at hnm
 clear hL hj hn
 go_enter Tryz.func55,Tryz.ntmps55
 go_wp2_with (go_at_call 94;refine (hl _).mono ?_;rintro e w' ⟨rfl,rfl⟩)
 clear hl
 go_loop [6] (fun v=>∃ k:Nat,i≤k∧k≤s.size∧v=.int .i64 k∧k + rl okB (s.data.toList.drop k)=j) (fun v=>s.size - (intOf v).toNat)
 case atStart=>exact ⟨i + 1,by omega,by omega,by go_num,uh HJ⟩
 case round =>
  clear HJ
  obtain ⟨k,hik,hk,rfl,heq⟩:=hrel
  have Heq:=hide heq
  clear heq
  by_cases hlt:k < s.size
  ·have b0:(0:Int)≤(k:Int):=by omega
   have b1:(k:Int) < (s.size:Int):=by omega
   have hl:=fun w=>refLet_any (s[k].toNat:Int) w
   have hd:=fun w=>refDig_any (s[k].toNat:Int) w
   cases hA:isLet (s[k].toNat:Int) with
   | true =>
    have Hy:=hide (run_step hlt (i:=k) rfl (let_ok hA))
    rw [hA] at hl
    go_wp2_with (go_at_call 94;refine (hl _).mono ?_;rintro e w' ⟨rfl,rfl⟩)
    exact ⟨⟨k + 1,by omega,by omega,by go_num,(uh Hy).symm.trans (uh Heq)⟩,by simp [intOf];omega⟩
   | false =>
    cases hB:isDig (s[k].toNat:Int) with
    | true =>
     have Hy:=hide (run_step (p:=okB) hlt (i:=k) rfl (by rw [okB_cases hA hB rfl];rfl))
     rw [hA] at hl
     rw [hB] at hd
     go_wp2_with (first | (go_at_call 94;refine (hl _).mono ?_;rintro e w' ⟨rfl,rfl⟩) | (go_at_call 95;refine (hd _).mono ?_;rintro e w' ⟨rfl,rfl⟩))
     exact ⟨⟨k + 1,by omega,by omega,by go_num,(uh Hy).symm.trans (uh Heq)⟩,by simp [intOf];omega⟩
    | false =>
     cases hC:((s[k].toNat:Int) == 95) with
     | true =>
      have Hy:=hide (run_step (p:=okB) hlt (i:=k) rfl (by rw [okB_cases hA hB hC];rfl))
      rw [hA] at hl
      rw [hB] at hd
      go_wp2_with (first | (go_at_call 94;refine (hl _).mono ?_;rintro e w' ⟨rfl,rfl⟩) | (go_at_call 95;refine (hd _).mono ?_;rintro e w' ⟨rfl,rfl⟩))
      exact ⟨⟨k + 1,by omega,by omega,by go_num,(uh Hy).symm.trans (uh Heq)⟩,by simp [intOf];omega⟩
     | false =>
      have Hy:=(run_stop (p:=okB) hlt (i:=k) rfl (by rw [okB_cases hA hB hC];rfl)).symm.trans (uh Heq)
      subst Hy
      rw [hA] at hl
      rw [hB] at hd
      have j0:(i:Int)≤(k:Int):=by omega
      go_wp2_with (first | (go_at_call 94;refine (hl _).mono ?_;rintro e w' ⟨rfl,rfl⟩) | (go_at_call 95;refine (hd _).mono ?_;rintro e w' ⟨rfl,rfl⟩))
      go_region_held3 (fun _=>True) (go_keep) ((go_at_call 33;refine (hnm _).mono ?_;rintro e w' ⟨rfl,rfl⟩))
      go_wp2
      refine bodyPost_ret (v:=.tuple #[.agg #[.int .i64 1,.int .i64 i,.int .i64 k,.int .i64 0,.string (s.extract i k)],.bool b]) (by simp [results,Tryz.results55,go_sem]) rfl ⟨rfl, ?_⟩
      exact ((Below.refl _ _).alloc (Nat.le_refl _) _).drew
  ·have Hy:=(run_end (p:=okB) hlt (i:=k) rfl).symm.trans (uh Heq)
   subst Hy
   have b1:¬ (k:Int) < (s.size:Int):=by omega
   have b0:(0:Int)≤(k:Int):=by omega
   have b2:(k:Int)≤(s.size:Int):=by omega
   have j0:(i:Int)≤(k:Int):=by omega
   go_wp2
   go_region_held3 (fun _=>True) (go_keep) ((go_at_call 33;refine (hnm _).mono ?_;rintro e w' ⟨rfl,rfl⟩))
   go_wp2
   refine bodyPost_ret (v:=.tuple #[.agg #[.int .i64 1,.int .i64 i,.int .i64 k,.int .i64 0,.string (s.extract i k)],.bool b]) (by simp [results,Tryz.results55,go_sem]) rfl ⟨rfl, ?_⟩
   exact ((Below.refl _ _).alloc (Nat.le_refl _) _).drew
set_option maxHeartbeats 2000000 in
theorem rt_num1 (s:ByteArray) (i:Nat) (w:World) (hi:i < s.size) (hs:s.size≤1000000) (hL:isLet (s[i].toNat:Int)=false) (hq:((s[i].toNat:Int) == 45)=true) (j:Nat) (hj:i + 1 + rl isDig (s.data.toList.drop (i + 1))=j) (n:Int) (b:Bool) (hn:∀ w,Calls Tryz.prog 96 #[.string (s.extract i j),.int .i64 (-2147483648),.int .i64 2147483647] w fun e w'=>e=.returned (.tuple #[.int .i64 n,.bool b])∧Below w.heap.size w w') :
  Calls Tryz.prog 55 #[.string s,.int .i64 i] w fun e w'=>e=.returned (.tuple #[.agg #[.int .i64 2,.int .i64 i,.int .i64 j,.int .i64 n,.string ⟨#[]⟩],.bool b])∧Below w.heap.size w w':=by
 have a0:(0:Int)≤(i:Int):=by omega
 have a1:(i:Int) < (s.size:Int):=by omega
 have a2:(s.size:Int)≤1000000:=by omega
 have HJ:=hide hj
 have hl:=fun w=>refLet_any (s[i].toNat:Int) w
 rw [hL] at hl
 clear hL hj
 go_enter Tryz.func55,Tryz.ntmps55
 go_wp2_with (first | (go_at_call 94;refine (hl _).mono ?_;rintro e w' ⟨rfl,rfl⟩))
 clear hl
 go_loop [6] (fun v=>∃ k:Nat,i≤k∧k≤s.size∧v=.int .i64 k∧k + rl isDig (s.data.toList.drop k)=j) (fun v=>s.size - (intOf v).toNat)
 case atStart=>exact ⟨i + 1,by omega,by omega,by go_num,uh HJ⟩
 case round =>
  clear HJ
  obtain ⟨k,hik,hk,rfl,heq⟩:=hrel
  have Heq:=hide heq
  clear heq
  by_cases hlt:k < s.size
  ·have b0:(0:Int)≤(k:Int):=by omega
   have b1:(k:Int) < (s.size:Int):=by omega
   have hd:=fun w=>refDig_any (s[k].toNat:Int) w
   cases hB:isDig (s[k].toNat:Int) with
   | true =>
    have Hy:=hide (run_step hlt (i:=k) rfl hB)
    rw [hB] at hd
    go_wp2_with (go_at_call 95;refine (hd _).mono ?_;rintro e w' ⟨rfl,rfl⟩)
    exact ⟨⟨k + 1,by omega,by omega,by go_num,(uh Hy).symm.trans (uh Heq)⟩,by simp [intOf];omega⟩
   | false =>
    have Hy:=(run_stop hlt (i:=k) rfl hB).symm.trans (uh Heq)
    subst Hy
    rw [hB] at hd
    have j0:(i:Int)≤(k:Int):=by omega
    go_wp2_with (first | (go_at_call 95;refine (hd _).mono ?_;rintro e w' ⟨rfl,rfl⟩) | (go_at_call 96;refine (hn _).mono ?_;rintro e w1 ⟨rfl,hb⟩;obtain ⟨hz,⟨c0,c1,c2,c3,c4⟩,⟨f0,f1,f2,f3,f4⟩⟩:=box5 hb;have Hb:=hide hb;clear hb))
    refine bodyPost_ret (v:=.tuple #[.agg #[.int .i64 2,.int .i64 i,.int .i64 k,.int .i64 n,.string ⟨#[]⟩],.bool b]) (by simp [results,Tryz.results55,go_sem,c0,c1,c2,c3,c4]) rfl ⟨rfl, ?_⟩
    exact below_st5 (uh Hb) _ _ _ _ _
  ·have Hy:=(run_end hlt (i:=k) (p:=isDig) rfl).symm.trans (uh Heq)
   subst Hy
   have b1:¬ (k:Int) < (s.size:Int):=by omega
   have b0:(0:Int)≤(k:Int):=by omega
   have b2:(k:Int)≤(s.size:Int):=by omega
   have j0:(i:Int)≤(k:Int):=by omega
   go_wp2_with (go_at_call 96;refine (hn _).mono ?_;rintro e w1 ⟨rfl,hb⟩;obtain ⟨hz,⟨c0,c1,c2,c3,c4⟩,⟨f0,f1,f2,f3,f4⟩⟩:=box5 hb;have Hb:=hide hb;clear hb)
   refine bodyPost_ret (v:=.tuple #[.agg #[.int .i64 2,.int .i64 i,.int .i64 k,.int .i64 n,.string ⟨#[]⟩],.bool b]) (by simp [results,Tryz.results55,go_sem,c0,c1,c2,c3,c4]) rfl ⟨rfl, ?_⟩
   exact below_st5 (uh Hb) _ _ _ _ _
set_option maxHeartbeats 2000000 in
theorem rt_num2 (s:ByteArray) (i:Nat) (w:World) (hi:i < s.size) (hs:s.size≤1000000) (hL:isLet (s[i].toNat:Int)=false) (hq:((s[i].toNat:Int) == 45)=false) (hD:isDig (s[i].toNat:Int)=true) (j:Nat) (hj:i + 1 + rl isDig (s.data.toList.drop (i + 1))=j) (n:Int) (b:Bool) (hn:∀ w,Calls Tryz.prog 96 #[.string (s.extract i j),.int .i64 (-2147483648),.int .i64 2147483647] w fun e w'=>e=.returned (.tuple #[.int .i64 n,.bool b])∧Below w.heap.size w w') :
  Calls Tryz.prog 55 #[.string s,.int .i64 i] w fun e w'=>e=.returned (.tuple #[.agg #[.int .i64 2,.int .i64 i,.int .i64 j,.int .i64 n,.string ⟨#[]⟩],.bool b])∧Below w.heap.size w w':=by
 have a0:(0:Int)≤(i:Int):=by omega
 have a1:(i:Int) < (s.size:Int):=by omega
 have a2:(s.size:Int)≤1000000:=by omega
 have HJ:=hide hj
 have hl:=fun w=>refLet_any (s[i].toNat:Int) w
 rw [hL] at hl
 have hd:=fun w=>refDig_any (s[i].toNat:Int) w
 rw [hD] at hd
 clear hL hj hD
 go_enter Tryz.func55,Tryz.ntmps55
 go_wp2_with (first | (go_at_call 94;refine (hl _).mono ?_;rintro e w' ⟨rfl,rfl⟩) | (go_at_call 95;refine (hd _).mono ?_;rintro e w' ⟨rfl,rfl⟩))
 clear hl hd
 go_loop [6] (fun v=>∃ k:Nat,i≤k∧k≤s.size∧v=.int .i64 k∧k + rl isDig (s.data.toList.drop k)=j) (fun v=>s.size - (intOf v).toNat)
 case atStart=>exact ⟨i + 1,by omega,by omega,by go_num,uh HJ⟩
 case round =>
  clear HJ
  obtain ⟨k,hik,hk,rfl,heq⟩:=hrel
  have Heq:=hide heq
  clear heq
  by_cases hlt:k < s.size
  ·have b0:(0:Int)≤(k:Int):=by omega
   have b1:(k:Int) < (s.size:Int):=by omega
   have hd:=fun w=>refDig_any (s[k].toNat:Int) w
   cases hB:isDig (s[k].toNat:Int) with
   | true =>
    have Hy:=hide (run_step hlt (i:=k) rfl hB)
    rw [hB] at hd
    go_wp2_with (go_at_call 95;refine (hd _).mono ?_;rintro e w' ⟨rfl,rfl⟩)
    exact ⟨⟨k + 1,by omega,by omega,by go_num,(uh Hy).symm.trans (uh Heq)⟩,by simp [intOf];omega⟩
   | false =>
    have Hy:=(run_stop hlt (i:=k) rfl hB).symm.trans (uh Heq)
    subst Hy
    rw [hB] at hd
    have j0:(i:Int)≤(k:Int):=by omega
    go_wp2_with (first | (go_at_call 95;refine (hd _).mono ?_;rintro e w' ⟨rfl,rfl⟩) | (go_at_call 96;refine (hn _).mono ?_;rintro e w1 ⟨rfl,hb⟩;obtain ⟨hz,⟨c0,c1,c2,c3,c4⟩,⟨f0,f1,f2,f3,f4⟩⟩:=box5 hb;have Hb:=hide hb;clear hb))
    refine bodyPost_ret (v:=.tuple #[.agg #[.int .i64 2,.int .i64 i,.int .i64 k,.int .i64 n,.string ⟨#[]⟩],.bool b]) (by simp [results,Tryz.results55,go_sem,c0,c1,c2,c3,c4]) rfl ⟨rfl, ?_⟩
    exact below_st5 (uh Hb) _ _ _ _ _
  ·have Hy:=(run_end hlt (i:=k) (p:=isDig) rfl).symm.trans (uh Heq)
   subst Hy
   have b1:¬ (k:Int) < (s.size:Int):=by omega
   have b0:(0:Int)≤(k:Int):=by omega
   have b2:(k:Int)≤(s.size:Int):=by omega
   have j0:(i:Int)≤(k:Int):=by omega
   go_wp2_with (go_at_call 96;refine (hn _).mono ?_;rintro e w1 ⟨rfl,hb⟩;obtain ⟨hz,⟨c0,c1,c2,c3,c4⟩,⟨f0,f1,f2,f3,f4⟩⟩:=box5 hb;have Hb:=hide hb;clear hb)
   refine bodyPost_ret (v:=.tuple #[.agg #[.int .i64 2,.int .i64 i,.int .i64 k,.int .i64 n,.string ⟨#[]⟩],.bool b]) (by simp [results,Tryz.results55,go_sem,c0,c1,c2,c3,c4]) rfl ⟨rfl, ?_⟩
   exact below_st5 (uh Hb) _ _ _ _ _
set_option maxHeartbeats 2000000 in
theorem rt_word (s:ByteArray) (i:Nat) (w:World) (hi:i < s.size) (hs:s.size≤1000000) (hL:isLet (s[i].toNat:Int)=false) (hq:((s[i].toNat:Int) == 45)=false) (hD:isDig (s[i].toNat:Int)=false) (hm:((s[i].toNat:Int) == 34)=true) (j:Nat) (hj:wR s (i + 1)=j) (hij:i < j) (hjs:j≤s.size) (k n er:Int) (t:ByteArray) (b:Bool) (hb0:(er == 0)=b) (hp:∀ w,Calls Tryz.prog 98 #[.string (s.extract i j)] w fun e w'=>e=.returned (.tuple #[.agg #[.int .i64 k,.int .i64 n,.string t],.int .i64 er])∧Below w.heap.size w w') :
  Calls Tryz.prog 55 #[.string s,.int .i64 i] w fun e w'=>e=.returned (.tuple #[.agg #[.int .i64 3,.int .i64 i,.int .i64 j,.int .i64 0,.string t],.bool b])∧Below w.heap.size w w':=by
 have a0:(0:Int)≤(i:Int):=by omega
 have a1:(i:Int) < (s.size:Int):=by omega
 have a2:(s.size:Int)≤1000000:=by omega
 have hl:=fun w=>refLet_any (s[i].toNat:Int) w
 rw [hL] at hl
 have hd:=fun w=>refDig_any (s[i].toNat:Int) w
 rw [hD] at hd
 have hr:=fun w=>refWord_any s i w hi (by omega) j hj
 have j0:((j:Int) == 0)=false:=by simp;omega
 have j1:(i:Int)≤(j:Int):=by omega
 have j2:(j:Int)≤(s.size:Int):=by omega
 clear hL hD hj
 go_enter Tryz.func55,Tryz.ntmps55
 go_wp2_with (first | (go_at_call 94;refine (hl _).mono ?_;rintro e w' ⟨rfl,rfl⟩) | (go_at_call 95;refine (hd _).mono ?_;rintro e w' ⟨rfl,rfl⟩) | (go_at_call 97;refine (hr _).mono ?_;rintro e w' ⟨rfl,rfl⟩) | (go_at_call 98;refine (hp _).mono ?_;rintro e w1 ⟨rfl,hb⟩;obtain ⟨hz,⟨c0,c1,c2,c3,c4⟩,⟨f0,f1,f2,f3,f4⟩⟩:=box5 hb;have Hb:=hide hb;clear hb))
 refine bodyPost_ret (v:=.tuple #[.agg #[.int .i64 3,.int .i64 i,.int .i64 j,.int .i64 0,.string t],.bool b]) (by simp [results,Tryz.results55,go_sem,c0,c1,c2,c3,c4,hz]) rfl ⟨rfl, ?_⟩
 exact (below_st5 (uh Hb) _ _ _ _ _).alloc (below_st5 (uh Hb) _ _ _ _ _).size _
set_option maxHeartbeats 2000000 in
theorem rt_noend (s:ByteArray) (i:Nat) (w:World) (hi:i < s.size) (hs:s.size≤1000000) (hL:isLet (s[i].toNat:Int)=false) (hq:((s[i].toNat:Int) == 45)=false) (hD:isDig (s[i].toNat:Int)=false) (hm:((s[i].toNat:Int) == 34)=true) (hj:wR s (i + 1)=0) :
  Calls Tryz.prog 55 #[.string s,.int .i64 i] w fun e w'=>e=.returned (.tuple #[.agg #[.int .i64 0,.int .i64 0,.int .i64 0,.int .i64 0,.string ⟨#[]⟩],.bool false])∧Below w.heap.size w w':=by
 have a0:(0:Int)≤(i:Int):=by omega
 have a1:(i:Int) < (s.size:Int):=by omega
 have a2:(s.size:Int)≤1000000:=by omega
 have hl:=fun w=>refLet_any (s[i].toNat:Int) w
 rw [hL] at hl
 have hd:=fun w=>refDig_any (s[i].toNat:Int) w
 rw [hD] at hd
 have hr:=fun w=>refWord_any s i w hi (by omega) 0 hj
 clear hL hD hj
 go_enter Tryz.func55,Tryz.ntmps55
 go_wp2_with (first | (go_at_call 94;refine (hl _).mono ?_;rintro e w' ⟨rfl,rfl⟩) | (go_at_call 95;refine (hd _).mono ?_;rintro e w' ⟨rfl,rfl⟩) | (go_at_call 97;refine (hr _).mono ?_;rintro e w' ⟨rfl,rfl⟩))
 refine bodyPost_ret (v:=.tuple #[.agg #[.int .i64 0,.int .i64 0,.int .i64 0,.int .i64 0,.string ⟨#[]⟩],.bool false]) (by simp [results,Tryz.results55,go_sem]) rfl ⟨rfl, ?_⟩
 exact (Below.refl _ _).alloc (Nat.le_refl _) _
set_option maxHeartbeats 2000000 in
theorem rt_sign (s:ByteArray) (i:Nat) (w:World) (hi:i < s.size) (hs:s.size≤1000000) (hL:isLet (s[i].toNat:Int)=false) (hq:((s[i].toNat:Int) == 45)=false) (hD:isDig (s[i].toNat:Int)=false) (hm:((s[i].toNat:Int) == 34)=false) (b:Bool) (hS:isSign s[i]=b) :
  Calls Tryz.prog 55 #[.string s,.int .i64 i] w fun e w'=>e=.returned (.tuple #[.agg #[.int .i64 4,.int .i64 i,.int .i64 ((i:Int) + 1),.int .i64 0,.string (s.extract i (i + 1))],.bool b])∧Below w.heap.size w w':=by
 have a0:(0:Int)≤(i:Int):=by omega
 have a1:(i:Int) < (s.size:Int):=by omega
 have a2:(s.size:Int)≤1000000:=by omega
 have hl:=fun w=>refLet_any (s[i].toNat:Int) w
 rw [hL] at hl
 have hd:=fun w=>refDig_any (s[i].toNat:Int) w
 rw [hD] at hd
 have a3:(i:Int) + 1≤(s.size:Int):=by omega
 have a4:(0:Int)≤(i:Int) + 1:=by omega
 have a5:(i:Int)≤(i:Int) + 1:=by omega
 have hsg:=fun w=>refSign_any s[i] w
 rw [hS] at hsg
 clear hL hD hS
 go_enter Tryz.func55,Tryz.ntmps55
 go_wp2_with (first | (go_at_call 94;refine (hl _).mono ?_;rintro e w' ⟨rfl,rfl⟩) | (go_at_call 95;refine (hd _).mono ?_;rintro e w' ⟨rfl,rfl⟩))
 go_region_held3 (fun _=>True) (go_keep) ((go_at_call 99;refine (hsg _).mono ?_;rintro e w' ⟨rfl,rfl⟩))
 go_wp2
 refine bodyPost_ret (v:=.tuple #[.agg #[.int .i64 4,.int .i64 i,.int .i64 ((i:Int) + 1),.int .i64 0,.string (s.extract i (i + 1))],.bool b]) (by simp [results,Tryz.results55,go_sem]) rfl ⟨rfl, ?_⟩
 exact ((Below.refl _ _).alloc (Nat.le_refl _) _).drew
end Go.Proofs.YtencibjmiphinaaGreatDoor.Lx
namespace Go.Proofs.YtencibjmiphinaaGreatDoor.Lx
open Go.RowKit

/-- The reference's answer: the token and true, or something and false. -/
def RefTok (i:Nat) (o:Option (Int × Nat × Int × ByteArray)) (e:Ending):Prop :=
 (o ≠ none∧e=.returned (tokV i o)) ∨ (o=none∧∃ (a b c d:Int) (x:ByteArray),e=.returned (.tuple #[.agg #[.int .i64 a,.int .i64 b,.int .i64 c,.int .i64 d,.string x],.bool false]))
theorem itoa_head (n:Int):∃ c r,Lib.itoa n=c :: r∧c ≠ 34:=by
 have h:=itoa_noquote n
 cases hl:Lib.itoa n with
 | nil =>
  have:=Lib.nDigits_pos n.natAbs
  have h2:=Lib.decDigits_length n.natAbs
  have h3:=Lib.nDigits_pos n.toNat
  have h4:=Lib.decDigits_length n.toNat
  unfold Lib.itoa at hl
  split at hl
  ·cases hl
  ·rw [hl] at h4;simp at h4;omega
 | cons c r =>
  refine ⟨c,r,rfl,fun e=>?_⟩
  rw [hl,e] at h
  simp [Lib.hasPrefix] at h
/-- A value whose text begins with no quotation mark is a number. -/
theorem pv_isnum {c:UInt8} {r:List UInt8} {q:Int × Int × ByteArray} (h:c ≠ 34) (hq:pv (c :: r)=some q):∃ n,q=(1,n,⟨#[]⟩)∧-2147483648≤n∧n≤2147483647∧c :: r=Lib.itoa n:=by
 rcases isVal_cases (pv_of hq) with h1 | ⟨t,_,_,e⟩
 ·exact h1
 ·injection e with e1;exact absurd e1 h
theorem pv_isword {r:List UInt8} {q:Int × Int × ByteArray} (hq:pv (34 :: r)=some q):∃ t:ByteArray,q=(2,0,t)∧t.size≤64∧34 :: r=quoteL t.data.toList:=by
 rcases isVal_cases (pv_of hq) with ⟨n,_,_,_,e⟩ | h1
 ·obtain ⟨c,r',e',hc⟩:=itoa_head n
  rw [e'] at e
  injection e with e1;exact absurd e1.symm hc
 ·exact h1
theorem refTok_any (s:ByteArray) (i:Nat) (w:World) (hi:i < s.size) (hs:s.size≤1000000) :
  Calls Tryz.prog 55 #[.string s,.int .i64 i] w fun e w'=>RefTok i (tokL (s.data.toList.drop i)) e∧Below w.heap.size w w':=by
 have hd:=drop_at s i hi
 have hes:∀ j,(s.extract i j).size≤1048576:=fun j=>by rw [ByteArray.size_extract];omega
 cases hL:isLet (s[i].toNat:Int) with
 | true =>
  have hx:=ext_take s i (rl okB (s.data.toList.drop i))
  cases hn:nameOk (s.extract i (i + rl okB (s.data.toList.drop i))) with
  | true =>
   have:=rt_name s i w hi hs hL _ rfl _ hn
   rw [hx,hd] at hn
   rw [hx] at this
   have ht:=tokL_name hL hn
   rw [← hd] at ht
   rw [ht]
   exact this.mono fun e w' ⟨he,hb⟩=>⟨Or.inl ⟨by simp,he⟩,hb⟩
  | false =>
   have:=rt_name s i w hi hs hL _ rfl _ hn
   rw [hx,hd] at hn
   have ht:=tokL_noname hL hn
   rw [← hd] at ht
   rw [ht]
   exact this.mono fun e w' ⟨he,hb⟩=>⟨Or.inr ⟨rfl,_,_,_,_,_,he⟩,hb⟩
 | false =>
  cases hN:(s[i] == 45 || isDig (s[i].toNat:Int)) with
  | true =>
   have hx:=ext_list s i (rl isDig (s.data.toList.drop (i + 1)) + 1)
   have e1:i + (rl isDig (s.data.toList.drop (i + 1)) + 1)=i + 1 + rl isDig (s.data.toList.drop (i + 1)):=by omega
   have hcase:((s[i].toNat:Int) == 45)=true ∨ (((s[i].toNat:Int) == 45)=false∧isDig (s[i].toNat:Int)=true):=by
    rw [dash_eq] at hN
    cases h:((s[i].toNat:Int) == 45) with
    | true=>exact Or.inl rfl
    | false=>rw [h] at hN;exact Or.inr ⟨rfl,by simpa using hN⟩
   have h34:s[i] ≠ 34:=by
    intro h
    rw [h] at hN
    simp [isDig] at hN
   rw [e1] at hx
   have hall:∀ (n:Int) (b:Bool),(∀ w,Calls Tryz.prog 96 #[.string (s.extract i (i + 1 + rl isDig (s.data.toList.drop (i + 1)))),.int .i64 (-2147483648),.int .i64 2147483647] w fun e w'=>e=.returned (.tuple #[.int .i64 n,.bool b])∧Below w.heap.size w w')→Calls Tryz.prog 55 #[.string s,.int .i64 i] w fun e w'=>e=.returned (.tuple #[.agg #[.int .i64 2,.int .i64 i,.int .i64 ((i + 1 + rl isDig (s.data.toList.drop (i + 1)):Nat):Int),.int .i64 n,.string ⟨#[]⟩],.bool b])∧Below w.heap.size w w':=by
    intro n b h
    rcases hcase with h1 | ⟨h1,hD⟩
    ·exact rt_num1 s i w hi hs hL h1 _ rfl n b h
    ·exact rt_num2 s i w hi hs hL h1 hD _ rfl n b h
   cases hq:pv ((s.data.toList.drop i).take (rl isDig (s.data.toList.drop (i + 1)) + 1)) with
   | some q =>
    have hq':=hq
    rw [hd,List.take_succ_cons] at hq'
    obtain ⟨n,rfl,n1,n2,n3⟩:=pv_isnum h34 hq'
    rw [← List.take_succ_cons,← hd,← hx] at n3
    have ht:=hq
    rw [hd] at ht
    have ht:=tokL_num hL hN ht
    rw [← hd] at ht
    rw [ht]
    refine (hall n true (fun w=>num_yes _ n n1 n2 n3 w (hes _))).mono fun e w' ⟨he,hb⟩=>⟨Or.inl ⟨by simp, ?_⟩,hb⟩
    rw [he]
    simp only [tokV]
    rw [e1]
    rfl
   | none =>
    have hng:¬ Good (s.extract i (i + 1 + rl isDig (s.data.toList.drop (i + 1)))).data.toList:=by
     rintro ⟨n,n1,n2,n3⟩
     rw [hx] at n3
     exact pv_none hq _ (by rw [n3];exact isVal_num n1 n2)
    have ht:=hq
    rw [hd] at ht
    have ht:=tokL_nonum hL hN ht
    rw [← hd] at ht
    rw [ht]
    exact (hall 0 false (fun w=>num_no _ hng w (hes _))).mono fun e w' ⟨he,hb⟩=>⟨Or.inr ⟨rfl,_,_,_,_,_,he⟩,hb⟩
  | false =>
   have hN':=hN
   rw [Bool.or_eq_false_iff] at hN'
   obtain ⟨hq,hD⟩:=hN'
   rw [dash_eq] at hq
   cases hm:((s[i].toNat:Int) == 34) with
   | true =>
    have hm':(s[i] == 34)=true:=by rw [mark_eq];exact hm
    have h34:s[i]=34:=by simpa using hm'
    cases hw:wl false (s.data.toList.drop (i + 1)) with
    | some n =>
     have hj:wR s (i + 1)=i + (n + 1):=by unfold wR;rw [hw];simp only;omega
     have hle:=wl_le _ _ _ hw
     simp only [List.length_drop,Array.length_toList] at hle
     have h4:s.data.size=s.size:=rfl
     have hx:=ext_list s i (n + 1)
     cases hp:pv ((s.data.toList.drop i).take (n + 1)) with
     | some q =>
      have hp':=hp
      rw [hd,List.take_succ_cons,h34] at hp'
      obtain ⟨t,rfl,t1,t2⟩:=pv_isword hp'
      rw [← h34,← List.take_succ_cons,← hd,← hx] at t2
      rw [hd] at hp
      have ht:=tokL_word hL hN hm' hw hp
      rw [← hd] at ht
      rw [ht]
      refine (rt_word s i w hi hs hL hq hD hm _ hj (by omega) (by omega) 2 0 0 t true rfl (fun w=>?_)).mono fun e w' ⟨he,hb⟩=>⟨Or.inl ⟨by simp, ?_⟩,hb⟩
      ·have:=refParse_word (s.extract i (i + (n + 1))) t.data.toList t2 (by simpa using t1) w (hes _)
       simpa using this
      ·rw [he];rfl
     | none =>
      have hpn:=hp
      rw [← hx] at hpn
      rw [hd] at hp
      have ht:=tokL_noword hL hN hm' hw hp
      rw [← hd] at ht
      rw [ht]
      refine (rt_word s i w hi hs hL hq hD hm _ hj (by omega) (by omega) 0 0 10 ⟨#[]⟩ false rfl (fun w=>?_)).mono fun e w' ⟨he,hb⟩=>⟨Or.inr ⟨rfl,_,_,_,_,_,he⟩,hb⟩
      have hng:¬ Good (s.extract i (i + (n + 1))).data.toList:=by
       rintro ⟨m,m1,m2,m3⟩
       exact pv_none hpn _ (by rw [m3];exact isVal_num m1 m2)
      by_cases hqt:∃ t,(s.extract i (i + (n + 1))).data.toList=quoteL t
      ·obtain ⟨t,hqt⟩:=hqt
       by_cases h64:t.length≤64
       ·exfalso
        refine pv_none hpn (2,0,⟨t.toArray⟩) ?_
        rw [hqt]
        have:=isVal_word (t:=⟨t.toArray⟩) (by simpa [ByteArray.size] using h64)
        simpa using this
       ·exact refParse_long _ t hqt h64 w (hes _)
      ·exact refParse_none _ hng (fun t h=>hqt ⟨t,h⟩) w (hes _)
    | none =>
     have hj:wR s (i + 1)=0:=by unfold wR;rw [hw]
     have ht:=tokL_noend hL hN hm' hw
     rw [← hd] at ht
     rw [ht]
     exact (rt_noend s i w hi hs hL hq hD hm hj).mono fun e w' ⟨he,hb⟩=>⟨Or.inr ⟨rfl,_,_,_,_,_,he⟩,hb⟩
   | false =>
    have hm':(s[i] == 34)=false:=by rw [mark_eq];exact hm
    cases hS:isSign s[i] with
    | true =>
     have ht:=tokL_sign (r:=s.data.toList.drop (i + 1)) hL hN hm' hS
     rw [← hd] at ht
     rw [ht]
     have:=rt_sign s i w hi hs hL hq hD hm _ hS
     have hx:=ext_take s i 1
     rw [hd] at hx
     rw [hx] at this
     exact this.mono fun e w' ⟨he,hb⟩=>⟨Or.inl ⟨by simp,he⟩,hb⟩
    | false =>
     have ht:=tokL_nosign (r:=s.data.toList.drop (i + 1)) hL hN hm' hS
     rw [← hd] at ht
     rw [ht]
     exact (rt_sign s i w hi hs hL hq hD hm _ hS).mono fun e w' ⟨he,hb⟩=>⟨Or.inr ⟨rfl,_,_,_,_,_,he⟩,hb⟩
end Go.Proofs.YtencibjmiphinaaGreatDoor.Lx
namespace Go.Proofs.YtencibjmiphinaaGreatDoor.Lx
open Go.RowKit

theorem toksL_blank {s:ByteArray} {k:Nat} (hk:k < s.size) (h:isBlank (s[k].toNat:Int)=true):toksL (s.data.toList.drop k) k=toksL (s.data.toList.drop (k + 1)) (k + 1):=by
 rw [toksL_skip (s.data.toList.drop k) k,toksL_skip (s.data.toList.drop (k + 1)) (k + 1)]
 rw [drop_at s k hk,rl_yes h,List.drop_succ_cons]
 rw [show k + (rl isBlank (s.data.toList.drop (k + 1)) + 1)=k + 1 + rl isBlank (s.data.toList.drop (k + 1)) by omega]
/-- Up to the place k the tokens l1 have been found; blanks may follow. -/
def SeenB (s:ByteArray) (l1:List Tok) (k:Nat):Prop :=
 k≤s.size∧l1.length≤k∧toksL s.data.toList 0=(l1 ++ (toksL (s.data.toList.drop k) k).1,(toksL (s.data.toList.drop k) k).2)
theorem SeenB.blank {s:ByteArray} {l1:List Tok} {k:Nat} (h:SeenB s l1 k) (hk:k < s.size) (hb:isBlank (s[k].toNat:Int)=true):SeenB s l1 (k + 1):=by
 refine ⟨by omega,by have:=h.2.1;omega, ?_⟩
 rw [← toksL_blank hk hb];exact h.2.2
theorem noblank {s:ByteArray} {k:Nat} (hk:k < s.size) (hb:isBlank (s[k].toNat:Int)=false):rl isBlank (s.data.toList.drop k)=0:=by
 rw [drop_at s k hk,rl_no hb]
theorem SeenB.next {s:ByteArray} {l1:List Tok} {k:Nat} (h:SeenB s l1 k) (hk:k < s.size) (hb:isBlank (s[k].toNat:Int)=false) {kd:Int} {n:Nat} {v:Int} {t:ByteArray} (ht:tokL (s.data.toList.drop k)=some (kd,n,v,t)) :
  SeenB s (l1 ++ [(kd,(k:Int),((k + n:Nat):Int),v,t)]) (k + n):=by
 obtain ⟨h1,h2,h4⟩:=h
 have hn:=tokL_len ht
 simp only [List.length_drop,Array.length_toList] at hn
 have hsz:s.data.size=s.size:=rfl
 refine ⟨by omega,by simp;omega, ?_⟩
 rw [h4,toksL_next hk (noblank hk hb) ht]
 simp
theorem SeenB.bad {s:ByteArray} {l1:List Tok} {k:Nat} (h:SeenB s l1 k) (hk:k < s.size) (hb:isBlank (s[k].toNat:Int)=false) (ht:tokL (s.data.toList.drop k)=none):toksL s.data.toList 0=(l1,some k):=by
 rw [h.2.2,toksL_stop hk (noblank hk hb) ht];simp
theorem SeenB.done {s:ByteArray} {l1:List Tok} {k:Nat} (h:SeenB s l1 k) (hk:¬ k < s.size):toksL s.data.toList 0=(l1,none):=by
 rw [h.2.2,toksL_fin hk];simp

set_option maxHeartbeats 400000 in
theorem refTokens_long (s:ByteArray) (w:World) (hs:4096 < s.size) :
  Calls Tryz.prog 26 #[.string s] w fun e w'=>e=.returned (.tuple #[.slice none 0 0,.int .i64 4096,.int .i64 10])∧w'=w:=by
 have a0:(4096:Int) < (s.size:Int):=by omega
 go_enter Tryz.func26,Tryz.ntmps26
 go_wp2
 refine bodyPost_ret (v:=.tuple #[.slice none 0 0,.int .i64 4096,.int .i64 10]) (by simp [results,Tryz.results26,go_sem]) rfl ⟨rfl,rfl⟩

set_option maxHeartbeats 2000000 in
theorem refTokens_any (s:ByteArray) (w:World) (hs:s.size≤4096) :
  Calls Tryz.prog 26 #[.string s] w fun e w'=>ToksPost w.heap.size w' (toksL s.data.toList 0) e∧Below w.heap.size w w':=by
 have a0:(s.size:Int)≤4096:=by omega
 have HS:=hide (show SeenB s [] 0 from ⟨by omega,by simp,by simp⟩)
 go_enter Tryz.func26,Tryz.ntmps26
 go_wp2
 go_loopw [5,6] (fun v a wr=>∃ (l1:List Tok) (q:Option Addr) (cap k:Nat),v=.slice q l1.length cap∧a=.int .i64 k∧SeenB s l1 k∧Below w.heap.size w wr∧OwnK encT 56 5 w.heap.size wr q cap l1) (fun _ a _=>s.size - (intOf a).toNat)
 case atStart=>exact ⟨[],none,0,0,rfl,rfl,uh HS,Below.refl _ _,OwnK.nil _ _⟩
 case round =>
  clear HS
  obtain ⟨l1,q,cap,k,rfl,rfl,hseen,hbel,hown⟩:=hrel
  have hks:=hseen.1
  have hlk:=hseen.2.1
  have HS:=hide hseen
  have HB:=hide hbel
  have HO:=hide hown
  clear hseen hbel hown
  by_cases hlt:k < s.size
  ·have b0:(0:Int)≤(k:Int):=by omega
   have b1:(k:Int) < (s.size:Int):=by omega
   have hbl:=fun w=>refBlank_any (s[k].toNat:Int) w
   cases hq:isBlank (s[k].toNat:Int) with
   | true =>
    have Hy:=hide ((uh HS).blank hlt hq)
    rw [hq] at hbl
    clear hq
    go_wp2_with (go_at_call 54;refine (hbl _).mono ?_;rintro e w' ⟨rfl,rfl⟩)
    exact ⟨⟨l1,q,cap,k + 1,rfl,by go_num,uh Hy,uh HB,uh HO⟩,by simp [intOf];omega⟩
   | false =>
    have hta:=refTok_any s k wr hlt (by omega)
    cases ht:tokL (s.data.toList.drop k) with
    | none =>
     have Hbad:=hide ((uh HS).bad hlt hq ht)
     rw [ht] at hta
     rw [hq] at hbl
     clear ht hq
     go_wp2_with (first
      | (go_at_call 54;refine (hbl _).mono ?_;rintro e w' ⟨rfl,rfl⟩)
      | (go_at_call 55;refine hta.mono ?_;rintro e w1 ⟨he,hb⟩;have Hb:=hide hb;clear hb;rcases he with ⟨hno,_⟩ | ⟨_,x1,x2,x3,x4,x5,rfl⟩;exact absurd rfl hno))
     refine bodyPost_ret (v:=.tuple #[.slice none 0 0,.int .i64 k,.int .i64 10]) (by simp [results,Tryz.results26,go_sem]) rfl ?_
     refine ⟨Or.inl ⟨k,by rw [uh Hbad],rfl⟩, ?_⟩
     exact (below_sub (uh HB) (uh Hb)).alloc (below_sub (uh HB) (uh Hb)).size _
    | some x =>
     obtain ⟨kd,n,v,t⟩:=x
     have hn:=tokL_len ht
     simp only [List.length_drop,Array.length_toList] at hn
     have hsz:s.data.size=s.size:=rfl
     have Hnext:=hide ((uh HS).next hlt hq ht)
     rw [ht] at hta
     rw [hq] at hbl
     clear ht hq
     obtain ⟨m,Hm⟩:∃ m,k + n=m:=⟨_,rfl⟩
     have hta:Calls Tryz.prog 55 #[.string s,.int .i64 k] wr fun e w'=>e=.returned (.tuple #[.agg #[.int .i64 kd,.int .i64 k,.int .i64 m,.int .i64 v,.string t],.bool true])∧Below wr.heap.size wr w':=hta.mono fun e w' ⟨he,hb⟩=>⟨by
      rcases he with ⟨_,he⟩ | ⟨h,_⟩
      ·rw [he,← Hm];rfl
      ·exact absurd h (by simp),hb⟩
     rw [Hm] at Hnext
     have HKJ:=hide (show k < m by omega)
     clear Hm
     go_wp2_with (first
      | (go_at_call 54;refine (hbl _).mono ?_;rintro e w' ⟨rfl,rfl⟩)
      | (go_at_call 55;refine hta.mono ?_;rintro e w1 ⟨rfl,hb⟩;have Hb:=hide hb;clear hb)
      | (at_builtin;refine wpList_app rowT rfl _ _ rfl w.heap.size q cap l1 (some ⟨w1.heap.size + 1,0,none⟩) 1 [(kd,(k:Int),(m:Int),v,t)] l1.length 1 (l1.length + 1) rfl rfl rfl rfl rfl ((uh HO).below (((uh Hb).alloc (uh Hb).size _).alloc (by have:=(uh Hb).size;simp;omega) _)) (SrcK.ofT (fun h=>by cases h) (TksOf.one (by simp) (by go_simp) (by go_simp) (by go_simp) (by go_simp) (by go_simp))) (by unfold maxLen;omega) (by omega) (by have h1:=(uh HB).size;have h2:=(uh Hb).size;simp;omega) ?_;intro q2 cap2 w2 hown2 hb2 _ hg2;have ct:w2.cell? ⟨w1.heap.size,2,none⟩=some (.int .i64 m):=(hg2.cell (a:=⟨w1.heap.size,2,none⟩) (by go_simp) (own_far (uh HO) (uh Hb)));have HO2:=hide hown2;have HB2:=hide ((((below_sub (uh HB) (uh Hb)).alloc (below_sub (uh HB) (uh Hb)).size _).alloc (by have:=(below_sub (uh HB) (uh Hb)).size;simp;omega) _).trans hb2);clear hown2 hb2 hg2))
     exact ⟨⟨l1 ++ [(kd,(k:Int),(m:Int),v,t)],q2,cap2,m,by simp,rfl,uh Hnext,uh HB2,uh HO2⟩,by have:=uh HKJ;simp [intOf];omega⟩
  ·have b1:¬ (k:Int) < (s.size:Int):=by omega
   have Hdone:=hide ((uh HS).done hlt)
   go_wp2
   refine bodyPost_ret (v:=.tuple #[.slice q l1.length cap,.int .i64 0,.int .i64 0]) (by simp [results,Tryz.results26,go_sem]) rfl ?_
   refine ⟨Or.inr ⟨by rw [uh Hdone],q,cap,by rw [uh Hdone],by rw [uh Hdone];exact uh HO⟩,uh HB⟩
end Go.Proofs.YtencibjmiphinaaGreatDoor.Lx

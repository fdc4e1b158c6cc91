/- What the lexer's leaf functions and its runs of bytes return, for every text and every place. -/
import Derived.Test.YtencibjmiphinaaGreatDoorEZaq
namespace Go.Proofs.YtencibjmiphinaaGreatDoor.Lx
open Go.RowKit
set_option maxHeartbeats 400000 in
theorem blank_any (c:Int) (w:World) :
  Calls Tryz.prog 48 #[.int .u8 c] w fun e w'=>e=.returned (.bool (isBlank c))/\w'=w:=by
 go_enter Tryz.func48,Tryz.ntmps48
 go_wp2
 all_goals (go_ret;refine ⟨ret_bool ?_,rfl⟩;unfold isBlank;simp_all)
set_option maxHeartbeats 400000 in
theorem lexLet_any (c:Int) (w:World) :
  Calls Tryz.prog 82 #[.int .u8 c] w fun e w'=>e=.returned (.bool (isLet c))/\w'=w:=by
 by_cases h1:97<=c <;> by_cases h2:c<=122
 all_goals
  go_enter Tryz.func82,Tryz.ntmps82
  go_wp2
  go_ret
  exact ⟨ret_bool (by simp [isLet,h1,h2]),rfl⟩
set_option maxHeartbeats 400000 in
theorem lexDig_any (c:Int) (w:World) :
  Calls Tryz.prog 85 #[.int .u8 c] w fun e w'=>e=.returned (.bool (isDig c))/\w'=w:=by
 by_cases h1:48<=c <;> by_cases h2:c<=57
 all_goals
  go_enter Tryz.func85,Tryz.ntmps85
  go_wp2
  go_ret
  exact ⟨ret_bool (by simp [isDig,h1,h2]),rfl⟩
set_option maxHeartbeats 400000 in
theorem inName_any (c:Int) (w:World) :
  Calls Tryz.prog 84 #[.int .u8 c] w fun e w'=>e=.returned (.bool (okB c))/\w'=w:=by
 have hl:=fun w=>lexLet_any c w
 have hd:=fun w=>lexDig_any c w
 have Ho:=hide (show okB c=(isLet c || isDig c || c == 95) from rfl)
 generalize isLet c=a at hl Ho
 generalize isDig c=b at hd Ho
 cases a <;> cases b
 all_goals
  go_enter Tryz.func84,Tryz.ntmps84
  go_wp2_with (first
   | (go_at_call 82;refine (hl _).mono ?_;rintro e w' ⟨rfl,rfl⟩)
   | (go_at_call 85;refine (hd _).mono ?_;rintro e w' ⟨rfl,rfl⟩))
  go_ret
  refine ⟨ret_bool ?_,rfl⟩
  rw [uh Ho];simp
theorem drop_end (s:ByteArray) (k:Nat) (h:¬ k < s.size):s.data.toList.drop k=[]:=List.drop_eq_nil_of_le (by simp;omega)
theorem run_step {p:Int->Bool} {s:ByteArray} {i k:Nat} (hk:k < s.size) (h:i + rl p (s.data.toList.drop i)=k + rl p (s.data.toList.drop k)) (hp:p (s[k].toNat:Int)=true):i + rl p (s.data.toList.drop i)=(k + 1) + rl p (s.data.toList.drop (k + 1)):=by
 rw [h,drop_at s k hk,rl_yes hp];omega
theorem run_stop {p:Int->Bool} {s:ByteArray} {i k:Nat} (hk:k < s.size) (h:i + rl p (s.data.toList.drop i)=k + rl p (s.data.toList.drop k)) (hp:p (s[k].toNat:Int)=false):i + rl p (s.data.toList.drop i)=k:=by
 rw [h,drop_at s k hk,rl_no hp];rfl
theorem run_end {p:Int->Bool} {s:ByteArray} {i k:Nat} (hk:¬ k < s.size) (h:i + rl p (s.data.toList.drop i)=k + rl p (s.data.toList.drop k)):i + rl p (s.data.toList.drop i)=k:=by
 rw [h,drop_end s k hk];rfl
set_option maxHeartbeats 1000000 in
theorem runBlank_any (s:ByteArray) (i:Nat) (w:World) (hi:i<=s.size) (hs:s.size<=1000000000) (j:Nat) (HJ:i + rl isBlank (s.data.toList.drop i)=j) :
  Calls Tryz.prog 47 #[.string s,.int .i64 i,.func (.func 48) #[] #[]] w fun e w'=>e=.returned (.int .i64 j)/\w'=w:=by
 subst HJ
 obtain ⟨J,HJ⟩:∃ J,J=i + rl isBlank (s.data.toList.drop i):=⟨_,rfl⟩
 rw [<- HJ]
 have HJ:=hide HJ
 have i1:(s.size:Int)<=1000000000:=by omega
 go_enter Tryz.func47,Tryz.ntmps47
 go_wp2
 go_loop [1] (fun v=>∃ k:Nat,k<=s.size/\v=.int .i64 k/\i + rl isBlank (s.data.toList.drop i)=k + rl isBlank (s.data.toList.drop k)) (fun v=>s.size - (intOf v).toNat)
 case atStart=>exact ⟨i,hi,rfl,rfl⟩
 case round =>
  obtain ⟨k,hk,rfl,heq⟩:=hrel
  have Heq:=hide heq
  clear heq
  by_cases hlt:k < s.size
  ·have b0:(0:Int)<=(k:Int):=by omega
   have b1:(k:Int) < (s.size:Int):=by omega
   have hc:=fun w=>blank_any (s[k].toNat:Int) w
   cases hq:isBlank (s[k].toNat:Int) with
   | true =>
    have Hy:=hide (run_step hlt (uh Heq) hq)
    rw [hq] at hc
    clear hq
    go_wp2_with (go_at_call 48;refine (hc _).mono ?_;rintro e w' ⟨rfl,rfl⟩)
    exact ⟨⟨k + 1,by omega,by go_num,uh Hy⟩,by simp [intOf];omega⟩
   | false =>
    have Hy:=hide (run_stop hlt (uh Heq) hq)
    rw [hq] at hc
    clear hq
    go_wp2_with (go_at_call 48;refine (hc _).mono ?_;rintro e w' ⟨rfl,rfl⟩)
    go_ret
    exact ⟨ret_int (by have:=uh Hy;have:=uh HJ;omega),rfl⟩
  ·have Hy:=hide (run_end hlt (uh Heq))
   have b1:¬ (k:Int) < (s.size:Int):=by omega
   go_wp2
   go_ret
   exact ⟨ret_int (by have:=uh Hy;have:=uh HJ;omega),rfl⟩
set_option maxHeartbeats 1000000 in
theorem runName_any (s:ByteArray) (i:Nat) (w:World) (hi:i<=s.size) (hs:s.size<=1000000000) (j:Nat) (HJ:i + rl okB (s.data.toList.drop i)=j) :
  Calls Tryz.prog 47 #[.string s,.int .i64 i,.func (.func 84) #[] #[]] w fun e w'=>e=.returned (.int .i64 j)/\w'=w:=by
 subst HJ
 obtain ⟨J,HJ⟩:∃ J,J=i + rl okB (s.data.toList.drop i):=⟨_,rfl⟩
 rw [<- HJ]
 have HJ:=hide HJ
 have i1:(s.size:Int)<=1000000000:=by omega
 go_enter Tryz.func47,Tryz.ntmps47
 go_wp2
 go_loop [1] (fun v=>∃ k:Nat,k<=s.size/\v=.int .i64 k/\i + rl okB (s.data.toList.drop i)=k + rl okB (s.data.toList.drop k)) (fun v=>s.size - (intOf v).toNat)
 case atStart=>exact ⟨i,hi,rfl,rfl⟩
 case round =>
  obtain ⟨k,hk,rfl,heq⟩:=hrel
  have Heq:=hide heq
  clear heq
  by_cases hlt:k < s.size
  ·have b0:(0:Int)<=(k:Int):=by omega
   have b1:(k:Int) < (s.size:Int):=by omega
   have hc:=fun w=>inName_any (s[k].toNat:Int) w
   cases hq:okB (s[k].toNat:Int) with
   | true =>
    have Hy:=hide (run_step hlt (uh Heq) hq)
    rw [hq] at hc
    clear hq
    go_wp2_with (go_at_call 84;refine (hc _).mono ?_;rintro e w' ⟨rfl,rfl⟩)
    exact ⟨⟨k + 1,by omega,by go_num,uh Hy⟩,by simp [intOf];omega⟩
   | false =>
    have Hy:=hide (run_stop hlt (uh Heq) hq)
    rw [hq] at hc
    clear hq
    go_wp2_with (go_at_call 84;refine (hc _).mono ?_;rintro e w' ⟨rfl,rfl⟩)
    go_ret
    exact ⟨ret_int (by have:=uh Hy;have:=uh HJ;omega),rfl⟩
  ·have Hy:=hide (run_end hlt (uh Heq))
   have b1:¬ (k:Int) < (s.size:Int):=by omega
   go_wp2
   go_ret
   exact ⟨ret_int (by have:=uh Hy;have:=uh HJ;omega),rfl⟩
set_option maxHeartbeats 1000000 in
theorem runDig_any (s:ByteArray) (i:Nat) (w:World) (hi:i<=s.size) (hs:s.size<=1000000000) (j:Nat) (HJ:i + rl isDig (s.data.toList.drop i)=j) :
  Calls Tryz.prog 47 #[.string s,.int .i64 i,.func (.func 85) #[] #[]] w fun e w'=>e=.returned (.int .i64 j)/\w'=w:=by
 subst HJ
 obtain ⟨J,HJ⟩:∃ J,J=i + rl isDig (s.data.toList.drop i):=⟨_,rfl⟩
 rw [<- HJ]
 have HJ:=hide HJ
 have i1:(s.size:Int)<=1000000000:=by omega
 go_enter Tryz.func47,Tryz.ntmps47
 go_wp2
 go_loop [1] (fun v=>∃ k:Nat,k<=s.size/\v=.int .i64 k/\i + rl isDig (s.data.toList.drop i)=k + rl isDig (s.data.toList.drop k)) (fun v=>s.size - (intOf v).toNat)
 case atStart=>exact ⟨i,hi,rfl,rfl⟩
 case round =>
  obtain ⟨k,hk,rfl,heq⟩:=hrel
  have Heq:=hide heq
  clear heq
  by_cases hlt:k < s.size
  ·have b0:(0:Int)<=(k:Int):=by omega
   have b1:(k:Int) < (s.size:Int):=by omega
   have hc:=fun w=>lexDig_any (s[k].toNat:Int) w
   cases hq:isDig (s[k].toNat:Int) with
   | true =>
    have Hy:=hide (run_step hlt (uh Heq) hq)
    rw [hq] at hc
    clear hq
    go_wp2_with (go_at_call 85;refine (hc _).mono ?_;rintro e w' ⟨rfl,rfl⟩)
    exact ⟨⟨k + 1,by omega,by go_num,uh Hy⟩,by simp [intOf];omega⟩
   | false =>
    have Hy:=hide (run_stop hlt (uh Heq) hq)
    rw [hq] at hc
    clear hq
    go_wp2_with (go_at_call 85;refine (hc _).mono ?_;rintro e w' ⟨rfl,rfl⟩)
    go_ret
    exact ⟨ret_int (by have:=uh Hy;have:=uh HJ;omega),rfl⟩
  ·have Hy:=hide (run_end hlt (uh Heq))
   have b1:¬ (k:Int) < (s.size:Int):=by omega
   go_wp2
   go_ret
   exact ⟨ret_int (by have:=uh Hy;have:=uh HJ;omega),rfl⟩
/-- Where the word that goes on at k ends. -/
def wE (s:ByteArray) (k:Nat) (e:Bool):Nat:=match wl e (s.data.toList.drop k) with | some n=>k + n | none=>s.size
theorem wE_hit {s:ByteArray} {k:Nat} {e:Bool} (hk:k < s.size) (h:((s[k].toNat:Int) == 34 && !e)=true):wE s k e=k + 1:=by
 unfold wE
 rw [drop_at s k hk]
 have:(s[k] == 34 && !e)=true:=by
  simp only [Bool.and_eq_true,beq_iff_eq] at h ⊢
  exact ⟨UInt8.toNat_inj.1 (by have e:(34:UInt8).toNat=34:=rfl;have:=h.1;omega),h.2⟩
 unfold wl;rw [if_pos this]
theorem wE_go {s:ByteArray} {k:Nat} {e:Bool} (hk:k < s.size) (h:((s[k].toNat:Int) == 34 && !e)=false):wE s k e=wE s (k + 1) ((s[k].toNat:Int) == 92 && !e):=by
 conv=>lhs;unfold wE
 rw [drop_at s k hk]
 have h1:(s[k] == 34 && !e)=false:=by
  rw [<- h];congr 1
  rw [Bool.eq_iff_iff];simp only [beq_iff_eq]
  exact ⟨fun h=>by rw [h];rfl,fun h=>UInt8.toNat_inj.1 (by have e:(34:UInt8).toNat=34:=rfl;omega)⟩
 have h2:(s[k] == 92 && !e)=((s[k].toNat:Int) == 92 && !e):=by
  congr 1
  rw [Bool.eq_iff_iff];simp only [beq_iff_eq]
  exact ⟨fun h=>by rw [h];rfl,fun h=>UInt8.toNat_inj.1 (by have e:(92:UInt8).toNat=92:=rfl;omega)⟩
 unfold wl;rw [if_neg (by simp [h1]),h2]
 unfold wE
 cases wl _ (s.data.toList.drop (k + 1)) with
 | none=>rfl
 | some n=>simp;omega
theorem wE_end {s:ByteArray} {k:Nat} {e:Bool} (hk:k<=s.size) (h:¬ k < s.size):wE s k e=k:=by
 unfold wE;rw [drop_end s k h];simp [wl];omega
set_option maxHeartbeats 400000 in
theorem clo_done (c:Int) (b1 b2:Nat) (w:World) (h1:w.cell? ⟨b1,0,none⟩=some (.bool true)) :
  Calls Tryz.prog 117 #[.int .u8 c,.pointer (some ⟨b1,0,none⟩),.pointer (some ⟨b2,0,none⟩)] w fun e w'=>e=.returned (.bool false)/\w'=w:=by
 go_enter Tryz.func117,Tryz.ntmps117
 go_wp2
 go_ret
 exact ⟨rfl,rfl⟩
set_option maxHeartbeats 400000 in
theorem clo_more (c:Int) (x:Bool) (b1 b2:Nat) (w:World) (h1:w.cell? ⟨b1,0,none⟩=some (.bool false)) (h2:w.cell? ⟨b2,0,none⟩=some (.bool x)) (f1:w.frozen? ⟨b1,0,none⟩=false) (f2:w.frozen? ⟨b2,0,none⟩=false) (hne:b1 ≠ b2) :
  Calls Tryz.prog 117 #[.int .u8 c,.pointer (some ⟨b1,0,none⟩),.pointer (some ⟨b2,0,none⟩)] w fun e w'=>e=.returned (.bool true)/\w'=(w.setCell ⟨b1,0,none⟩ (.bool (c == 34 && !x))).setCell ⟨b2,0,none⟩ (.bool (c == 92 && !x)):=by
 have hne':b2 ≠ b1:=hne.symm
 cases q1:(c == 34) <;> cases q2:(c == 92) <;> cases x
 all_goals
  go_enter Tryz.func117,Tryz.ntmps117
  go_wp2
  go_ret
  exact ⟨rfl,by simp⟩
theorem two_cells {w:World} {b1 b2:Nat} {x y:Value} {v1 v2:Value} (hne:b1 ≠ b2) (h1:w.cell? ⟨b1,0,none⟩=some v1) (h2:w.cell? ⟨b2,0,none⟩=some v2) (f1:w.frozen? ⟨b1,0,none⟩=false) (f2:w.frozen? ⟨b2,0,none⟩=false) :
  ((w.setCell ⟨b1,0,none⟩ x).setCell ⟨b2,0,none⟩ y).cell? ⟨b1,0,none⟩=some x/\((w.setCell ⟨b1,0,none⟩ x).setCell ⟨b2,0,none⟩ y).cell? ⟨b2,0,none⟩=some y/\((w.setCell ⟨b1,0,none⟩ x).setCell ⟨b2,0,none⟩ y).frozen? ⟨b1,0,none⟩=false/\((w.setCell ⟨b1,0,none⟩ x).setCell ⟨b2,0,none⟩ y).frozen? ⟨b2,0,none⟩=false:=by
 have hne':b2 ≠ b1:=hne.symm
 refine ⟨?_, ?_, ?_, ?_⟩ <;> go_simp <;> simp_all
set_option maxHeartbeats 1000000 in
theorem runWord_any (B:Nat) (s:ByteArray) (i:Nat) (b1 b2:Nat) (w:World) (hi:i<=s.size) (hs:s.size<=1000000000) (j:Nat) (HJ:wE s i false=j) (hne:b1 ≠ b2) (hB1:B<=b1) (hB2:B<=b2) (h1:w.cell? ⟨b1,0,none⟩=some (.bool false)) (h2:w.cell? ⟨b2,0,none⟩=some (.bool false)) (f1:w.frozen? ⟨b1,0,none⟩=false) (f2:w.frozen? ⟨b2,0,none⟩=false) :
  Calls Tryz.prog 47 #[.string s,.int .i64 i,.func (.func 117) #[] #[.pointer (some ⟨b1,0,none⟩),.pointer (some ⟨b2,0,none⟩)]] w fun e w'=>e=.returned (.int .i64 j)/\Below B w w':=by
 have i1:(s.size:Int)<=1000000000:=by omega
 have HI:=hide (And.intro HJ (And.intro h1 (And.intro h2 (And.intro f1 f2))))
 clear HJ h1 h2 f1 f2
 go_enter Tryz.func47,Tryz.ntmps47
 go_wp2
 go_loopw [1] (fun v wr=>∃ (k:Nat) (d x:Bool),k<=s.size/\v=.int .i64 k/\Below B w wr/\wr.cell? ⟨b1,0,none⟩=some (.bool d)/\wr.cell? ⟨b2,0,none⟩=some (.bool x)/\wr.frozen? ⟨b1,0,none⟩=false/\wr.frozen? ⟨b2,0,none⟩=false/\(d=false->wE s k x=j)/\(d=true->k=j)) (fun v _=>s.size - (intOf v).toNat)
 case atStart =>
  obtain ⟨e1,e2,e3,e4,e5⟩:=uh HI
  exact ⟨i,false,false,hi,rfl,Below.refl _ _,e2,e3,e4,e5,fun _=>e1,fun h=>by cases h⟩
 case round =>
  clear HI
  obtain ⟨k,d,x,hk,rfl,hbel,h1,h2,f1,f2,hw1,hw2⟩:=hrel
  have HB:=hide hbel
  clear hbel
  by_cases hlt:k < s.size
  ·have b0:(0:Int)<=(k:Int):=by omega
   have bk:(k:Int) < (s.size:Int):=by omega
   cases d with
   | true =>
    have Hy:=hide (hw2 rfl)
    have hc:=clo_done (s[k].toNat:Int) b1 b2 wr h1
    clear hw1 hw2 h1 h2 f1 f2
    go_wp2_with (go_at_call 117;refine hc.mono ?_;rintro e w' ⟨rfl,rfl⟩)
    go_ret
    exact ⟨ret_int (by have:=uh Hy;omega),uh HB⟩
   | false =>
    have hc:=clo_more (s[k].toNat:Int) x b1 b2 wr h1 h2 f1 f2 hne
    have Ht:=hide (two_cells (x:=.bool ((s[k].toNat:Int) == 34 && !x)) (y:=.bool ((s[k].toNat:Int) == 92 && !x)) hne h1 h2 f1 f2)
    have He:=hide (hw1 rfl)
    clear hw1 hw2 h1 h2 f1 f2
    go_wp2_with (go_at_call 117;refine hc.mono ?_;rintro e w' ⟨rfl,rfl⟩)
    go_roundw
    case rel =>
     obtain ⟨t1,t2,t3,t4⟩:=uh Ht
     refine ⟨k + 1,_,_,by omega,by go_num,((uh HB).setCell hB1 _).setCell hB2 _,t1,t2,t3,t4,fun h=>?_,fun h=>?_⟩
     ·rw [<- wE_go hlt h];exact uh He
     ·rw [<- wE_hit hlt h];exact uh He
    case measure=>simp [intOf];omega
  ·have bk:¬ (k:Int) < (s.size:Int):=by omega
   have Hy:=hide (show (k:Int)=(j:Int) by
    cases d with
    | true=>rw [hw2 rfl]
    | false=>rw [<- hw1 rfl,wE_end hk hlt])
   clear hw1 hw2 h1 h2 f1 f2
   go_wp2
   go_ret
   exact ⟨ret_int (uh Hy),uh HB⟩
set_option maxHeartbeats 1000000 in
theorem wordEnd_any (s:ByteArray) (i:Nat) (w:World) (hi:i < s.size) (hs:s.size<=1000000000) (j:Nat) (HJ:wE s (i + 1) false=j) :
  Calls Tryz.prog 87 #[.string s,.int .i64 i] w fun e w'=>e=.returned (.int .i64 j)/\Below w.heap.size w w':=by
 have hr:=fun w' h1 h2 h3 h4=>runWord_any w.heap.size s (i + 1) (w.heap.size + 1) w.heap.size w' (by omega) hs j HJ (by omega) (by omega) (Nat.le_refl _) h1 h2 h3 h4
 have i1:(i:Int) + 1<=1000000000:=by omega
 have i0:(0:Int)<=(i:Int):=by omega
 go_enter Tryz.func87,Tryz.ntmps87
 go_wp2_with (go_at_call 47;refine (hr _ (by go_simp) (by go_simp) (by go_simp) (by go_simp)).mono ?_;rintro e w' ⟨rfl,hb⟩)
 go_ret
 exact ⟨rfl,(((Below.refl _ _).alloc (Nat.le_refl _) _).alloc (by simp) _).trans hb⟩
end Go.Proofs.YtencibjmiphinaaGreatDoor.Lx

/- What the lexer's tokenAt returns, for every text and every place in it. -/
import Derived.Test.YtencibjmiphinaaGreatDoorEZar
namespace Go.Proofs.YtencibjmiphinaaGreatDoor.Lx
open Go.RowKit
set_option maxHeartbeats 2000000 in
theorem at_name (s:ByteArray) (i:Nat) (w:World) (hi:i < s.size) (hs:s.size<=1000000) (hL:isLet (s[i].toNat:Int)=true) (j:Nat) (hj:i + rl okB (s.data.toList.drop i)=j) (hn:nameOk (s.extract i j)=true) :
  Calls Tryz.prog 49 #[.string s,.int .i64 i] w fun e w'=>e=.returned (.tuple #[.agg #[.int .i64 1,.int .i64 i,.int .i64 j,.int .i64 0,.string (s.extract i j)],.bool true])/\Below w.heap.size w w':=by
 have a0:(0:Int)<=(i:Int):=by omega
 have a1:(i:Int) < (s.size:Int):=by omega
 have a2:(s.size:Int)<=1000000:=by omega
 have hjs:j<=s.size:=by have:=rl_le okB (s.data.toList.drop i);simp at this;omega
 have hl:=fun w=>lexLet_any (s[i].toNat:Int) w
 rw [hL] at hl
 have hr:=fun w=>runName_any s i w (by omega) (by omega) j hj
 have ht:=fun w=>nameTok_yes s i j w (by omega) hjs hn
 clear hL hn hj
 go_enter Tryz.func49,Tryz.ntmps49
 go_wp2_with (first
  | (go_at_call 82;refine (hl _).mono ?_;rintro e w' ⟨rfl,rfl⟩)
  | (go_at_call 47;refine (hr _).mono ?_;rintro e w' ⟨rfl,rfl⟩)
  | (go_at_call 83;refine (ht _).mono ?_;rintro e w1 ⟨rfl,hb⟩;obtain ⟨hz,⟨c0,c1,c2,c3,c4⟩,⟨f0,f1,f2,f3,f4⟩⟩:=box5 hb;have Hb:=hide hb;clear hb))
 refine bodyPost_ret (v:=.tuple #[.agg #[.int .i64 1,.int .i64 i,.int .i64 j,.int .i64 0,.string (s.extract i j)],.bool true]) (by simp [results,Tryz.results49,go_sem,c0,c1,c2,c3,c4]) rfl ⟨rfl, ?_⟩
 exact below_st5 (uh Hb) _ _ _ _ _
set_option maxHeartbeats 2000000 in
theorem at_noname (s:ByteArray) (i:Nat) (w:World) (hi:i < s.size) (hs:s.size<=1000000) (hL:isLet (s[i].toNat:Int)=true) (j:Nat) (hj:i + rl okB (s.data.toList.drop i)=j) (hn:nameOk (s.extract i j)=false) :
  Calls Tryz.prog 49 #[.string s,.int .i64 i] w fun e w'=>e=.returned (.tuple #[.agg #[.int .i64 0,.int .i64 0,.int .i64 0,.int .i64 0,.string ⟨#[]⟩],.bool false])/\Below w.heap.size w w':=by
 have a0:(0:Int)<=(i:Int):=by omega
 have a1:(i:Int) < (s.size:Int):=by omega
 have a2:(s.size:Int)<=1000000:=by omega
 have hjs:j<=s.size:=by have:=rl_le okB (s.data.toList.drop i);simp at this;omega
 have hl:=fun w=>lexLet_any (s[i].toNat:Int) w
 rw [hL] at hl
 have hr:=fun w=>runName_any s i w (by omega) (by omega) j hj
 have ht:=fun w=>nameTok_no s i j w (by omega) hjs hn
 clear hL hn hj
 go_enter Tryz.func49,Tryz.ntmps49
 go_wp2_with (first
  | (go_at_call 82;refine (hl _).mono ?_;rintro e w' ⟨rfl,rfl⟩)
  | (go_at_call 47;refine (hr _).mono ?_;rintro e w' ⟨rfl,rfl⟩)
  | (go_at_call 83;refine (ht _).mono ?_;rintro e w1 ⟨rfl,hb⟩;obtain ⟨hz,⟨c0,c1,c2,c3,c4⟩,⟨f0,f1,f2,f3,f4⟩⟩:=box5 hb;have Hb:=hide hb;clear hb))
 refine bodyPost_ret (v:=.tuple #[.agg #[.int .i64 0,.int .i64 0,.int .i64 0,.int .i64 0,.string ⟨#[]⟩],.bool false]) (by simp [results,Tryz.results49,go_sem,c0,c1,c2,c3,c4]) rfl ⟨rfl, ?_⟩
 exact below_st5 (uh Hb) _ _ _ _ _
set_option maxHeartbeats 2000000 in
theorem at_num1 (s:ByteArray) (i:Nat) (w:World) (hG:G w) (hi:i < s.size) (hs:s.size<=1000000) (hL:isLet (s[i].toNat:Int)=false) (hq:((s[i].toNat:Int) == 45)=true) (j:Nat) (hj:i + 1 + rl isDig (s.data.toList.drop (i + 1))=j) (k n:Int) (t:ByteArray) (hv:IsVal (s.extract i j).data.toList (k,n,t)) (K:Int) (hK:K=if k=2 then 3 else 2) :
  Calls Tryz.prog 49 #[.string s,.int .i64 i] w fun e w'=>e=.returned (.tuple #[.agg #[.int .i64 K,.int .i64 i,.int .i64 j,.int .i64 n,.string t],.bool true])/\Below w.heap.size w w':=by
 have a0:(0:Int)<=(i:Int):=by omega
 have a1:(i:Int) < (s.size:Int):=by omega
 have a2:(s.size:Int)<=1000000:=by omega
 have hjs:j<=s.size:=by have:=rl_le isDig (s.data.toList.drop (i + 1));simp at this;omega
 have hl:=fun w=>lexLet_any (s[i].toNat:Int) w
 rw [hL] at hl
 have hr:=fun w=>runDig_any s (i + 1) w (by omega) (by omega) j hj
 have ht:=fun w hG=>valTok_yes s i j k n t w hG (by omega) hjs hv K hK
 clear hL hv hj hK
 go_enter Tryz.func49,Tryz.ntmps49
 go_wp2_with (first
  | (go_at_call 82;refine (hl _).mono ?_;rintro e w' ⟨rfl,rfl⟩)
  | (go_at_call 47;refine (hr _).mono ?_;rintro e w' ⟨rfl,rfl⟩)
  | (go_at_call 86;refine (ht _ (by exact G_alloc hG _)).mono ?_;rintro e w1 ⟨rfl,hb⟩;obtain ⟨hz,⟨c0,c1,c2,c3,c4⟩,⟨f0,f1,f2,f3,f4⟩⟩:=box5 hb;have Hb:=hide hb;clear hb))
 refine bodyPost_ret (v:=.tuple #[.agg #[.int .i64 K,.int .i64 i,.int .i64 j,.int .i64 n,.string t],.bool true]) (by simp [results,Tryz.results49,go_sem,c0,c1,c2,c3,c4]) rfl ⟨rfl, ?_⟩
 exact below_st5 (uh Hb) _ _ _ _ _
set_option maxHeartbeats 2000000 in
theorem at_nonum1 (s:ByteArray) (i:Nat) (w:World) (hG:G w) (hi:i < s.size) (hs:s.size<=1000000) (hL:isLet (s[i].toNat:Int)=false) (hq:((s[i].toNat:Int) == 45)=true) (j:Nat) (hj:i + 1 + rl isDig (s.data.toList.drop (i + 1))=j) (hv:pv (s.extract i j).data.toList=none) :
  Calls Tryz.prog 49 #[.string s,.int .i64 i] w fun e w'=>e=.returned (.tuple #[.agg #[.int .i64 0,.int .i64 0,.int .i64 0,.int .i64 0,.string ⟨#[]⟩],.bool false])/\Below w.heap.size w w':=by
 have a0:(0:Int)<=(i:Int):=by omega
 have a1:(i:Int) < (s.size:Int):=by omega
 have a2:(s.size:Int)<=1000000:=by omega
 have hjs:j<=s.size:=by have:=rl_le isDig (s.data.toList.drop (i + 1));simp at this;omega
 have hl:=fun w=>lexLet_any (s[i].toNat:Int) w
 rw [hL] at hl
 have hr:=fun w=>runDig_any s (i + 1) w (by omega) (by omega) j hj
 have ht:=fun w hG=>valTok_no s i j w hG (by omega) hjs hs hv
 clear hL hv hj
 go_enter Tryz.func49,Tryz.ntmps49
 go_wp2_with (first
  | (go_at_call 82;refine (hl _).mono ?_;rintro e w' ⟨rfl,rfl⟩)
  | (go_at_call 47;refine (hr _).mono ?_;rintro e w' ⟨rfl,rfl⟩)
  | (go_at_call 86;refine (ht _ (by exact G_alloc hG _)).mono ?_;rintro e w1 ⟨rfl,hb⟩;obtain ⟨hz,⟨c0,c1,c2,c3,c4⟩,⟨f0,f1,f2,f3,f4⟩⟩:=box5 hb;have Hb:=hide hb;clear hb))
 refine bodyPost_ret (v:=.tuple #[.agg #[.int .i64 0,.int .i64 0,.int .i64 0,.int .i64 0,.string ⟨#[]⟩],.bool false]) (by simp [results,Tryz.results49,go_sem,c0,c1,c2,c3,c4]) rfl ⟨rfl, ?_⟩
 exact below_st5 (uh Hb) _ _ _ _ _
set_option maxHeartbeats 2000000 in
theorem at_num2 (s:ByteArray) (i:Nat) (w:World) (hG:G w) (hi:i < s.size) (hs:s.size<=1000000) (hL:isLet (s[i].toNat:Int)=false) (hq:((s[i].toNat:Int) == 45)=false) (hD:isDig (s[i].toNat:Int)=true) (j:Nat) (hj:i + 1 + rl isDig (s.data.toList.drop (i + 1))=j) (k n:Int) (t:ByteArray) (hv:IsVal (s.extract i j).data.toList (k,n,t)) (K:Int) (hK:K=if k=2 then 3 else 2) :
  Calls Tryz.prog 49 #[.string s,.int .i64 i] w fun e w'=>e=.returned (.tuple #[.agg #[.int .i64 K,.int .i64 i,.int .i64 j,.int .i64 n,.string t],.bool true])/\Below w.heap.size w w':=by
 have a0:(0:Int)<=(i:Int):=by omega
 have a1:(i:Int) < (s.size:Int):=by omega
 have a2:(s.size:Int)<=1000000:=by omega
 have hjs:j<=s.size:=by have:=rl_le isDig (s.data.toList.drop (i + 1));simp at this;omega
 have hl:=fun w=>lexLet_any (s[i].toNat:Int) w
 rw [hL] at hl
 have hd:=fun w=>lexDig_any (s[i].toNat:Int) w
 rw [hD] at hd
 have hr:=fun w=>runDig_any s (i + 1) w (by omega) (by omega) j hj
 have ht:=fun w hG=>valTok_yes s i j k n t w hG (by omega) hjs hv K hK
 clear hL hv hj hD hK
 go_enter Tryz.func49,Tryz.ntmps49
 go_wp2_with (first
  | (go_at_call 82;refine (hl _).mono ?_;rintro e w' ⟨rfl,rfl⟩)
  | (go_at_call 85;refine (hd _).mono ?_;rintro e w' ⟨rfl,rfl⟩)
  | (go_at_call 47;refine (hr _).mono ?_;rintro e w' ⟨rfl,rfl⟩)
  | (go_at_call 86;refine (ht _ (by exact G_alloc hG _)).mono ?_;rintro e w1 ⟨rfl,hb⟩;obtain ⟨hz,⟨c0,c1,c2,c3,c4⟩,⟨f0,f1,f2,f3,f4⟩⟩:=box5 hb;have Hb:=hide hb;clear hb))
 refine bodyPost_ret (v:=.tuple #[.agg #[.int .i64 K,.int .i64 i,.int .i64 j,.int .i64 n,.string t],.bool true]) (by simp [results,Tryz.results49,go_sem,c0,c1,c2,c3,c4]) rfl ⟨rfl, ?_⟩
 exact below_st5 (uh Hb) _ _ _ _ _
set_option maxHeartbeats 2000000 in
theorem at_nonum2 (s:ByteArray) (i:Nat) (w:World) (hG:G w) (hi:i < s.size) (hs:s.size<=1000000) (hL:isLet (s[i].toNat:Int)=false) (hq:((s[i].toNat:Int) == 45)=false) (hD:isDig (s[i].toNat:Int)=true) (j:Nat) (hj:i + 1 + rl isDig (s.data.toList.drop (i + 1))=j) (hv:pv (s.extract i j).data.toList=none) :
  Calls Tryz.prog 49 #[.string s,.int .i64 i] w fun e w'=>e=.returned (.tuple #[.agg #[.int .i64 0,.int .i64 0,.int .i64 0,.int .i64 0,.string ⟨#[]⟩],.bool false])/\Below w.heap.size w w':=by
 have a0:(0:Int)<=(i:Int):=by omega
 have a1:(i:Int) < (s.size:Int):=by omega
 have a2:(s.size:Int)<=1000000:=by omega
 have hjs:j<=s.size:=by have:=rl_le isDig (s.data.toList.drop (i + 1));simp at this;omega
 have hl:=fun w=>lexLet_any (s[i].toNat:Int) w
 rw [hL] at hl
 have hd:=fun w=>lexDig_any (s[i].toNat:Int) w
 rw [hD] at hd
 have hr:=fun w=>runDig_any s (i + 1) w (by omega) (by omega) j hj
 have ht:=fun w hG=>valTok_no s i j w hG (by omega) hjs hs hv
 clear hL hv hj hD
 go_enter Tryz.func49,Tryz.ntmps49
 go_wp2_with (first
  | (go_at_call 82;refine (hl _).mono ?_;rintro e w' ⟨rfl,rfl⟩)
  | (go_at_call 85;refine (hd _).mono ?_;rintro e w' ⟨rfl,rfl⟩)
  | (go_at_call 47;refine (hr _).mono ?_;rintro e w' ⟨rfl,rfl⟩)
  | (go_at_call 86;refine (ht _ (by exact G_alloc hG _)).mono ?_;rintro e w1 ⟨rfl,hb⟩;obtain ⟨hz,⟨c0,c1,c2,c3,c4⟩,⟨f0,f1,f2,f3,f4⟩⟩:=box5 hb;have Hb:=hide hb;clear hb))
 refine bodyPost_ret (v:=.tuple #[.agg #[.int .i64 0,.int .i64 0,.int .i64 0,.int .i64 0,.string ⟨#[]⟩],.bool false]) (by simp [results,Tryz.results49,go_sem,c0,c1,c2,c3,c4]) rfl ⟨rfl, ?_⟩
 exact below_st5 (uh Hb) _ _ _ _ _
set_option maxHeartbeats 2000000 in
theorem at_word (s:ByteArray) (i:Nat) (w:World) (hG:G w) (hi:i < s.size) (hs:s.size<=1000000) (hL:isLet (s[i].toNat:Int)=false) (hq:((s[i].toNat:Int) == 45)=false) (hD:isDig (s[i].toNat:Int)=false) (hm:((s[i].toNat:Int) == 34)=true) (j:Nat) (hj:wE s (i + 1) false=j) (hij:i<=j) (hjs:j<=s.size) (k n:Int) (t:ByteArray) (hv:IsVal (s.extract i j).data.toList (k,n,t)) (K:Int) (hK:K=if k=2 then 3 else 2) :
  Calls Tryz.prog 49 #[.string s,.int .i64 i] w fun e w'=>e=.returned (.tuple #[.agg #[.int .i64 K,.int .i64 i,.int .i64 j,.int .i64 n,.string t],.bool true])/\Below w.heap.size w w':=by
 have a0:(0:Int)<=(i:Int):=by omega
 have a1:(i:Int) < (s.size:Int):=by omega
 have a2:(s.size:Int)<=1000000:=by omega
 have hl:=fun w=>lexLet_any (s[i].toNat:Int) w
 rw [hL] at hl
 have hd:=fun w=>lexDig_any (s[i].toNat:Int) w
 rw [hD] at hd
 have hr:=fun w=>wordEnd_any s i w hi (by omega) j hj
 have ht:=fun w hG=>valTok_yes s i j k n t w hG hij hjs hv K hK
 clear hL hv hj hD hK
 go_enter Tryz.func49,Tryz.ntmps49
 go_wp2_with (first
  | (go_at_call 82;refine (hl _).mono ?_;rintro e w' ⟨rfl,rfl⟩)
  | (go_at_call 85;refine (hd _).mono ?_;rintro e w' ⟨rfl,rfl⟩)
  | (go_at_call 87;refine (hr _).mono ?_;rintro e w0 ⟨rfl,hb0⟩)
  | (go_at_call 86;refine (ht _ (by exact G_below (G_alloc hG _) hb0)).mono ?_;rintro e w1 ⟨rfl,hb1⟩;have hb:=below_sub hb0 hb1;obtain ⟨hz,⟨c0,c1,c2,c3,c4⟩,⟨f0,f1,f2,f3,f4⟩⟩:=box5 hb;have Hb:=hide hb;clear hb))
 refine bodyPost_ret (v:=.tuple #[.agg #[.int .i64 K,.int .i64 i,.int .i64 j,.int .i64 n,.string t],.bool true]) (by simp [results,Tryz.results49,go_sem,c0,c1,c2,c3,c4]) rfl ⟨rfl, ?_⟩
 exact below_st5 (uh Hb) _ _ _ _ _
set_option maxHeartbeats 2000000 in
theorem at_noword (s:ByteArray) (i:Nat) (w:World) (hG:G w) (hi:i < s.size) (hs:s.size<=1000000) (hL:isLet (s[i].toNat:Int)=false) (hq:((s[i].toNat:Int) == 45)=false) (hD:isDig (s[i].toNat:Int)=false) (hm:((s[i].toNat:Int) == 34)=true) (j:Nat) (hj:wE s (i + 1) false=j) (hij:i<=j) (hjs:j<=s.size) (hv:pv (s.extract i j).data.toList=none) :
  Calls Tryz.prog 49 #[.string s,.int .i64 i] w fun e w'=>e=.returned (.tuple #[.agg #[.int .i64 0,.int .i64 0,.int .i64 0,.int .i64 0,.string ⟨#[]⟩],.bool false])/\Below w.heap.size w w':=by
 have a0:(0:Int)<=(i:Int):=by omega
 have a1:(i:Int) < (s.size:Int):=by omega
 have a2:(s.size:Int)<=1000000:=by omega
 have hl:=fun w=>lexLet_any (s[i].toNat:Int) w
 rw [hL] at hl
 have hd:=fun w=>lexDig_any (s[i].toNat:Int) w
 rw [hD] at hd
 have hr:=fun w=>wordEnd_any s i w hi (by omega) j hj
 have ht:=fun w hG=>valTok_no s i j w hG hij hjs hs hv
 clear hL hv hj hD
 go_enter Tryz.func49,Tryz.ntmps49
 go_wp2_with (first
  | (go_at_call 82;refine (hl _).mono ?_;rintro e w' ⟨rfl,rfl⟩)
  | (go_at_call 85;refine (hd _).mono ?_;rintro e w' ⟨rfl,rfl⟩)
  | (go_at_call 87;refine (hr _).mono ?_;rintro e w0 ⟨rfl,hb0⟩)
  | (go_at_call 86;refine (ht _ (by exact G_below (G_alloc hG _) hb0)).mono ?_;rintro e w1 ⟨rfl,hb1⟩;have hb:=below_sub hb0 hb1;obtain ⟨hz,⟨c0,c1,c2,c3,c4⟩,⟨f0,f1,f2,f3,f4⟩⟩:=box5 hb;have Hb:=hide hb;clear hb))
 refine bodyPost_ret (v:=.tuple #[.agg #[.int .i64 0,.int .i64 0,.int .i64 0,.int .i64 0,.string ⟨#[]⟩],.bool false]) (by simp [results,Tryz.results49,go_sem,c0,c1,c2,c3,c4]) rfl ⟨rfl, ?_⟩
 exact below_st5 (uh Hb) _ _ _ _ _
set_option maxHeartbeats 2000000 in
theorem at_sign (s:ByteArray) (i:Nat) (w:World) (hi:i < s.size) (hs:s.size<=1000000) (hL:isLet (s[i].toNat:Int)=false) (hq:((s[i].toNat:Int) == 45)=false) (hD:isDig (s[i].toNat:Int)=false) (hm:((s[i].toNat:Int) == 34)=false) (hS:isSign s[i]=true) :
  Calls Tryz.prog 49 #[.string s,.int .i64 i] w fun e w'=>e=.returned (.tuple #[.agg #[.int .i64 4,.int .i64 i,.int .i64 ((i:Int) + 1),.int .i64 0,.string (s.extract i (i + 1))],.bool true])/\Below w.heap.size w w':=by
 have a0:(0:Int)<=(i:Int):=by omega
 have a1:(i:Int) < (s.size:Int):=by omega
 have a2:(s.size:Int)<=1000000:=by omega
 have hl:=fun w=>lexLet_any (s[i].toNat:Int) w
 rw [hL] at hl
 have hd:=fun w=>lexDig_any (s[i].toNat:Int) w
 rw [hD] at hd
 have hix:=fun w=>Tryz.strings_IndexByte ⟨#[123,125,91,93,40,41,44,33,124,38,42]⟩ (s[i].toNat:Int) w
 obtain ⟨X,HX⟩:∃ X,X=Lib.indexByte (⟨#[123,125,91,93,40,41,44,33,124,38,42]⟩:ByteArray).data.toList ((s[i].toNat:Int)).toNat.toUInt8:=⟨_,rfl⟩
 rw [<- HX] at hix
 have hX:=sign_pos s[i] X (by rw [HX];simp [signs]) hS
 clear hL hD hS HX
 go_enter Tryz.func49,Tryz.ntmps49
 go_wp2_with (first
  | (go_at_call 82;refine (hl _).mono ?_;rintro e w' ⟨rfl,rfl⟩)
  | (go_at_call 85;refine (hd _).mono ?_;rintro e w' ⟨rfl,rfl⟩)
  | (go_at_call 88;refine (hix _).mono ?_;rintro e w' ⟨rfl,rfl⟩))
 refine bodyPost_ret (v:=.tuple #[.agg #[.int .i64 4,.int .i64 i,.int .i64 ((i:Int) + 1),.int .i64 0,.string (s.extract i (i + 1))],.bool true]) (by simp [results,Tryz.results49,go_sem]) rfl ⟨rfl, ?_⟩
 exact (Below.refl _ _).alloc (Nat.le_refl _) _
set_option maxHeartbeats 2000000 in
theorem at_nosign (s:ByteArray) (i:Nat) (w:World) (hi:i < s.size) (hs:s.size<=1000000) (hL:isLet (s[i].toNat:Int)=false) (hq:((s[i].toNat:Int) == 45)=false) (hD:isDig (s[i].toNat:Int)=false) (hm:((s[i].toNat:Int) == 34)=false) (hS:isSign s[i]=false) :
  Calls Tryz.prog 49 #[.string s,.int .i64 i] w fun e w'=>e=.returned (.tuple #[.agg #[.int .i64 0,.int .i64 0,.int .i64 0,.int .i64 0,.string ⟨#[]⟩],.bool false])/\Below w.heap.size w w':=by
 have a0:(0:Int)<=(i:Int):=by omega
 have a1:(i:Int) < (s.size:Int):=by omega
 have a2:(s.size:Int)<=1000000:=by omega
 have hl:=fun w=>lexLet_any (s[i].toNat:Int) w
 rw [hL] at hl
 have hd:=fun w=>lexDig_any (s[i].toNat:Int) w
 rw [hD] at hd
 have hix:=fun w=>Tryz.strings_IndexByte ⟨#[123,125,91,93,40,41,44,33,124,38,42]⟩ (s[i].toNat:Int) w
 obtain ⟨X,HX⟩:∃ X,X=Lib.indexByte (⟨#[123,125,91,93,40,41,44,33,124,38,42]⟩:ByteArray).data.toList ((s[i].toNat:Int)).toNat.toUInt8:=⟨_,rfl⟩
 rw [<- HX] at hix
 have hX:=sign_neg s[i] X (by rw [HX];simp [signs]) hS
 clear hL hD hS HX
 go_enter Tryz.func49,Tryz.ntmps49
 go_wp2_with (first
  | (go_at_call 82;refine (hl _).mono ?_;rintro e w' ⟨rfl,rfl⟩)
  | (go_at_call 85;refine (hd _).mono ?_;rintro e w' ⟨rfl,rfl⟩)
  | (go_at_call 88;refine (hix _).mono ?_;rintro e w' ⟨rfl,rfl⟩))
 refine bodyPost_ret (v:=.tuple #[.agg #[.int .i64 0,.int .i64 0,.int .i64 0,.int .i64 0,.string ⟨#[]⟩],.bool false]) (by simp [results,Tryz.results49,go_sem]) rfl ⟨rfl, ?_⟩
 exact (Below.refl _ _).alloc (Nat.le_refl _) _
/-- What tokenAt answers. -/
theorem tokAt_any (s:ByteArray) (i:Nat) (w:World) (hG:G w) (hi:i < s.size) (hs:s.size<=1000000) :
  Calls Tryz.prog 49 #[.string s,.int .i64 i] w fun e w'=>e=.returned (tokV i (tokL (s.data.toList.drop i)))/\Below w.heap.size w w':=by
 have hd:=drop_at s i hi
 cases hL:isLet (s[i].toNat:Int) with
 | true =>
  have hx:=ext_take s i (rl okB (s.data.toList.drop i))
  cases hn:nameOk (s.extract i (i + rl okB (s.data.toList.drop i))) with
  | true =>
   have:=at_name s i w hi hs hL _ rfl hn
   rw [hx,hd] at hn
   rw [hx] at this
   have ht:=tokL_name hL hn
   rw [<- hd] at ht
   rw [ht]
   exact this
  | false =>
   have:=at_noname s i w hi hs hL _ rfl hn
   rw [hx,hd] at hn
   have ht:=tokL_noname hL hn
   rw [<- hd] at ht
   rw [ht]
   exact this
 | false =>
  cases hN:(s[i] == 45 || isDig (s[i].toNat:Int)) with
  | true =>
   have hx:=ext_list s i (rl isDig (s.data.toList.drop (i + 1)) + 1)
   have e1:i + (rl isDig (s.data.toList.drop (i + 1)) + 1)=i + 1 + rl isDig (s.data.toList.drop (i + 1)):=by omega
   have hcase:((s[i].toNat:Int) == 45)=true ∨ (((s[i].toNat:Int) == 45)=false/\isDig (s[i].toNat:Int)=true):=by
    rw [dash_eq] at hN
    cases h:((s[i].toNat:Int) == 45) with
    | true=>exact Or.inl rfl
    | false=>rw [h] at hN;exact Or.inr ⟨rfl,by simpa using hN⟩
   rw [e1] at hx
   cases hq:pv ((s.data.toList.drop i).take (rl isDig (s.data.toList.drop (i + 1)) + 1)) with
   | some q =>
    obtain ⟨k,n,t⟩:=q
    have hv:=pv_of hq
    rw [<- hx] at hv
    have ht:=hq
    rw [hd] at ht
    have ht:=tokL_num hL hN ht
    rw [<- hd] at ht
    rw [ht]
    show Calls Tryz.prog 49 #[.string s,.int .i64 i] w fun e w'=>e=.returned (.tuple #[.agg #[.int .i64 (if k=2 then 3 else 2),.int .i64 i,.int .i64 ((i + (rl isDig (s.data.toList.drop (i + 1)) + 1):Nat):Int),.int .i64 n,.string t],.bool true])/\Below w.heap.size w w'
    rw [e1]
    rcases hcase with h | ⟨h,hD⟩
    ·exact at_num1 s i w hG hi hs hL h _ rfl k n t hv _ rfl
    ·exact at_num2 s i w hG hi hs hL h hD _ rfl k n t hv _ rfl
   | none =>
    have hv:=hq
    rw [<- hx] at hv
    rw [hd] at hq
    have ht:=tokL_nonum hL hN hq
    rw [<- hd] at ht
    rw [ht]
    rcases hcase with h | ⟨h,hD⟩
    ·exact at_nonum1 s i w hG hi hs hL h _ rfl hv
    ·exact at_nonum2 s i w hG hi hs hL h hD _ rfl hv
  | false =>
   have hN':=hN
   rw [Bool.or_eq_false_iff] at hN'
   obtain ⟨hq,hD⟩:=hN'
   rw [dash_eq] at hq
   cases hm:((s[i].toNat:Int) == 34) with
   | true =>
    have hm':(s[i] == 34)=true:=by rw [mark_eq];exact hm
    have h34:s[i]=34:=by simpa using hm'
    cases hw:wl false (s.data.toList.drop (i + 1)) with
    | some n =>
     have hj:wE s (i + 1) false=i + (n + 1):=by unfold wE;rw [hw];simp only;omega
     have hle:=wl_le _ _ _ hw
     simp only [List.length_drop,Array.length_toList] at hle
     have h4:s.data.size=s.size:=rfl
     have hx:=ext_list s i (n + 1)
     cases hp:pv ((s.data.toList.drop i).take (n + 1)) with
     | some q =>
      obtain ⟨k,v,t⟩:=q
      have hv:=pv_of hp
      rw [<- hx] at hv
      rw [hd] at hp
      have ht:=tokL_word hL hN hm' hw hp
      rw [<- hd] at ht
      rw [ht]
      exact at_word s i w hG hi hs hL hq hD hm _ hj (by omega) (by omega) k v t hv _ rfl
     | none =>
      have hv:=hp
      rw [<- hx] at hv
      rw [hd] at hp
      have ht:=tokL_noword hL hN hm' hw hp
      rw [<- hd] at ht
      rw [ht]
      exact at_noword s i w hG hi hs hL hq hD hm _ hj (by omega) (by omega) hv
    | none =>
     have hj:wE s (i + 1) false=s.size:=by unfold wE;rw [hw]
     have ht:=tokL_noend hL hN hm' hw
     rw [<- hd] at ht
     rw [ht]
     refine at_noword s i w hG hi hs hL hq hD hm _ hj (by omega) (Nat.le_refl _) ?_
     have hx:=ext_list s i (s.size - i)
     rw [show i + (s.size - i)=s.size by omega,List.take_of_length_le (by simp)] at hx
     rw [hx,hd,h34]
     exact pv_noend hw
   | false =>
    have hm':(s[i] == 34)=false:=by rw [mark_eq];exact hm
    cases hS:isSign s[i] with
    | true =>
     have ht:=tokL_sign (r:=s.data.toList.drop (i + 1)) hL hN hm' hS
     rw [<- hd] at ht
     rw [ht]
     have:=at_sign s i w hi hs hL hq hD hm hS
     have hx:=ext_take s i 1
     rw [hd] at hx
     rw [hx] at this
     exact this
    | false =>
     have ht:=tokL_nosign (r:=s.data.toList.drop (i + 1)) hL hN hm' hS
     rw [<- hd] at ht
     rw [ht]
     exact at_nosign s i w hi hs hL hq hD hm hS
end Go.Proofs.YtencibjmiphinaaGreatDoor.Lx

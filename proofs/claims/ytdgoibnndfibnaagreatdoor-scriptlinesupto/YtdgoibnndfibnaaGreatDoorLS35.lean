/- ScriptLines: the law. -/
import Derived.Test.YtdgoibnndfibnaaGreatDoorLZaj
namespace Go.Proofs.YtdgoibnndfibnaaGreatDoor
open Go.RowKit Go.Sort
set_option maxHeartbeats 8000000 in
set_option maxRecDepth 100000 in
theorem lines_11 {w:World} {u v:Ou} (A:ByteArray) (hA:∀ k (h:k < A.size),A[k] ≠ 10) (hAz:A.size<=140737488355328) (B:ByteArray) (R:Bool) (hAB:(A.toList == B.toList)=R) (HF:Hid (∀ W:World,Below w.heap.size w W->Calls Tryz.prog 9 #[] W fun e w'=>e=.returned (.bool true)/\Below W.heap.size W w'))
    (HO1:Hid (∀ W:World,Below w.heap.size w W->Calls Tryz.prog 13 #[u.val] W fun e w'=>e=.returned (.tuple #[.string A,.int .i64 0])/\Below W.heap.size W w'))
    (HO2:Hid (∀ W:World,Below w.heap.size w W->Calls Tryz.prog 13 #[v.val] W fun e w'=>e=.returned (.tuple #[.string B,.int .i64 0])/\Below W.heap.size W w'))
    (HS:Hid (∀ W:World,Below w.heap.size w W->Calls Tryz.prog 22 #[u.val,v.val] W fun e w'=>e=.returned (.bool R)/\Below W.heap.size W w')) :
    Calls Tryz.prog 8 #[u.val,v.val] w fun e w'=>e=.returned (.bool true)/\Below w.heap.size w w':=by
  have mixed:Tryz.prog.follows .mixedOrders=true:=by kernel_rfl
  obtain ⟨X,HXX,bX,hx,hy⟩:=two7 w u v
  obtain ⟨x0,x1,x2,x3,x4,x5,x6⟩:=of7s hx
  obtain ⟨y0,y1,y2,y3,y4,y5,y6⟩:=of7s hy
  have HX:=hide hx
  have HY:=hide hy
  have BX:=hide bX
  replace HF:=hide ((uh HF) X bX)
  replace HO1:=hide (fun W (hW:Below X.heap.size X W)=>(uh HO1) W (below_sub bX hW))
  replace HO2:=hide (fun W (hW:Below X.heap.size X W)=>(uh HO2) W (below_sub bX hW))
  replace HS:=hide (fun W (hW:Below X.heap.size X W)=>(uh HS) W (below_sub bX hW))
  have hRR:(R == R)=true:=by simp
  have a0:(A.size:Int)<=140737488355328:=by omega
  have HA:=hide hA
  clear hA
  clear bX hx hy
  unfold Ou.val at HO1 HO2 HS ⊢
  go_enter Tryz.func8,Tryz.ntmps8
  go_wp2_with (first
    | (go_at_call 13;refine (uh HO2 _ (uh B2)).mono ?_;rintro e w3 ⟨rfl,b3⟩;have B3:=hide (below_sub (uh B2) b3);clear x0 x1 x2 x3 x4 x5 x6 y0 y1 y2 y3 y4 y5 y6;obtain ⟨x0,x1,x2,x3,x4,x5,x6⟩:=of7s (blk_onS (uh HX) (uh B3));obtain ⟨y0,y1,y2,y3,y4,y5,y6⟩:=of7s (blk_onS (uh HY) (uh B3));clear b3)
    | (go_at_call 13;refine (uh HO1 _ (uh B1)).mono ?_;rintro e w2 ⟨rfl,b2⟩;have B2:=hide (below_sub (uh B1) b2);clear x0 x1 x2 x3 x4 x5 x6 y0 y1 y2 y3 y4 y5 y6;obtain ⟨x0,x1,x2,x3,x4,x5,x6⟩:=of7s (blk_onS (uh HX) (uh B2));obtain ⟨y0,y1,y2,y3,y4,y5,y6⟩:=of7s (blk_onS (uh HY) (uh B2));clear b2)
    | (go_at_call 9;refine (uh HF).mono ?_;rintro e w1 ⟨rfl,b1⟩;have B1:=hide b1;clear x0 x1 x2 x3 x4 x5 x6 y0 y1 y2 y3 y4 y5 y6;obtain ⟨x0,x1,x2,x3,x4,x5,x6⟩:=of7s (blk_onS (uh HX) b1);obtain ⟨y0,y1,y2,y3,y4,y5,y6⟩:=of7s (blk_onS (uh HY) b1);clear b1))
  go_loopw [9] (fun i wr=>wr=w3/\∃ k:Nat,k<=ByteArray.size A/\i=.int .i64 (k:Int)) (fun i _=>ByteArray.size A - (intOf i).toNat)
  case atStart=>exact ⟨rfl,0,Nat.zero_le _,rfl⟩
  case round =>
    obtain ⟨rfl,k,hk,rfl⟩:=hrel
    by_cases hlt:k < A.size
    · have ki0:(0:Int)<=(k:Int):=by omega
      have ki1:(k:Int) < (A.size:Int):=by omega
      have ks:k < A.size:=hlt
      have hc:=uh HA k hlt
      obtain ⟨c,hcc⟩:∃ c,A[k]=c:=⟨_,rfl⟩
      rw [hcc] at hc
      have n10:((c.toNat:Int) == 10)=false:=by rw [show ((c.toNat:Int) == 10)=decide (c=10) from u8_eq c 10 (by decide)];exact decide_eq_false hc
      clear hc
      go_wp2
      exact ⟨⟨(by first | trivial | rfl),k + 1,by omega,by go_num⟩,by simp [intOf];omega⟩
    · obtain rfl:k=A.size:=by omega
      have ki1:¬ (A.size:Int) < (A.size:Int):=by omega
      go_wp2_with (go_at_call 22;refine (uh HS _ (uh B3)).mono ?_;rintro e w4 ⟨rfl,b4⟩;have B4:=hide (below_sub (uh B3) b4);clear b4)
      go_ret
      exact ⟨rfl,below_sub (uh BX) (uh B4)⟩
set_option maxHeartbeats 8000000 in
set_option maxRecDepth 100000 in
theorem lines_10 {w:World} {u v:Ou} (A:ByteArray) (hA:∀ k (h:k < A.size),A[k] ≠ 10) (hAz:A.size<=140737488355328) (hAn:(A.toList == [])=false) (HF:Hid (∀ W:World,Below w.heap.size w W->Calls Tryz.prog 9 #[] W fun e w'=>e=.returned (.bool true)/\Below W.heap.size W w'))
    (HO1:Hid (∀ W:World,Below w.heap.size w W->Calls Tryz.prog 13 #[u.val] W fun e w'=>e=.returned (.tuple #[.string A,.int .i64 0])/\Below W.heap.size W w'))
    (HO2:Hid (∀ W:World,Below w.heap.size w W->Calls Tryz.prog 13 #[v.val] W fun e w'=>e=.returned (.tuple #[.string ⟨#[]⟩,.int .i64 1])/\Below W.heap.size W w'))
     :
    Calls Tryz.prog 8 #[u.val,v.val] w fun e w'=>e=.returned (.bool true)/\Below w.heap.size w w':=by
  have mixed:Tryz.prog.follows .mixedOrders=true:=by kernel_rfl
  obtain ⟨X,HXX,bX,hx,hy⟩:=two7 w u v
  obtain ⟨x0,x1,x2,x3,x4,x5,x6⟩:=of7s hx
  obtain ⟨y0,y1,y2,y3,y4,y5,y6⟩:=of7s hy
  have HX:=hide hx
  have HY:=hide hy
  have BX:=hide bX
  replace HF:=hide ((uh HF) X bX)
  replace HO1:=hide (fun W (hW:Below X.heap.size X W)=>(uh HO1) W (below_sub bX hW))
  replace HO2:=hide (fun W (hW:Below X.heap.size X W)=>(uh HO2) W (below_sub bX hW))
  have a0:(A.size:Int)<=140737488355328:=by omega
  have HA:=hide hA
  clear hA
  clear bX hx hy
  unfold Ou.val at HO1 HO2 ⊢
  go_enter Tryz.func8,Tryz.ntmps8
  go_wp2_with (first
    | (go_at_call 13;refine (uh HO2 _ (uh B2)).mono ?_;rintro e w3 ⟨rfl,b3⟩;have B3:=hide (below_sub (uh B2) b3);clear x0 x1 x2 x3 x4 x5 x6 y0 y1 y2 y3 y4 y5 y6;obtain ⟨x0,x1,x2,x3,x4,x5,x6⟩:=of7s (blk_onS (uh HX) (uh B3));obtain ⟨y0,y1,y2,y3,y4,y5,y6⟩:=of7s (blk_onS (uh HY) (uh B3));clear b3)
    | (go_at_call 13;refine (uh HO1 _ (uh B1)).mono ?_;rintro e w2 ⟨rfl,b2⟩;have B2:=hide (below_sub (uh B1) b2);clear x0 x1 x2 x3 x4 x5 x6 y0 y1 y2 y3 y4 y5 y6;obtain ⟨x0,x1,x2,x3,x4,x5,x6⟩:=of7s (blk_onS (uh HX) (uh B2));obtain ⟨y0,y1,y2,y3,y4,y5,y6⟩:=of7s (blk_onS (uh HY) (uh B2));clear b2)
    | (go_at_call 9;refine (uh HF).mono ?_;rintro e w1 ⟨rfl,b1⟩;have B1:=hide b1;clear x0 x1 x2 x3 x4 x5 x6 y0 y1 y2 y3 y4 y5 y6;obtain ⟨x0,x1,x2,x3,x4,x5,x6⟩:=of7s (blk_onS (uh HX) b1);obtain ⟨y0,y1,y2,y3,y4,y5,y6⟩:=of7s (blk_onS (uh HY) b1);clear b1))
  go_loopw [9] (fun i wr=>wr=w3/\∃ k:Nat,k<=ByteArray.size A/\i=.int .i64 (k:Int)) (fun i _=>ByteArray.size A - (intOf i).toNat)
  case atStart=>exact ⟨rfl,0,Nat.zero_le _,rfl⟩
  case round =>
    obtain ⟨rfl,k,hk,rfl⟩:=hrel
    by_cases hlt:k < A.size
    · have ki0:(0:Int)<=(k:Int):=by omega
      have ki1:(k:Int) < (A.size:Int):=by omega
      have ks:k < A.size:=hlt
      have hc:=uh HA k hlt
      obtain ⟨c,hcc⟩:∃ c,A[k]=c:=⟨_,rfl⟩
      rw [hcc] at hc
      have n10:((c.toNat:Int) == 10)=false:=by rw [show ((c.toNat:Int) == 10)=decide (c=10) from u8_eq c 10 (by decide)];exact decide_eq_false hc
      clear hc
      go_wp2
      exact ⟨⟨(by first | trivial | rfl),k + 1,by omega,by go_num⟩,by simp [intOf];omega⟩
    · obtain rfl:k=A.size:=by omega
      have ki1:¬ (A.size:Int) < (A.size:Int):=by omega
      go_wp2
      go_ret
      exact ⟨rfl,below_sub (uh BX) (uh B3)⟩
set_option maxHeartbeats 8000000 in
set_option maxRecDepth 100000 in
theorem lines_01 {w:World} {u v:Ou} (B:ByteArray) (hBn:(B.toList == [])=false) (HF:Hid (∀ W:World,Below w.heap.size w W->Calls Tryz.prog 9 #[] W fun e w'=>e=.returned (.bool true)/\Below W.heap.size W w'))
    (HO1:Hid (∀ W:World,Below w.heap.size w W->Calls Tryz.prog 13 #[u.val] W fun e w'=>e=.returned (.tuple #[.string ⟨#[]⟩,.int .i64 1])/\Below W.heap.size W w'))
    (HO2:Hid (∀ W:World,Below w.heap.size w W->Calls Tryz.prog 13 #[v.val] W fun e w'=>e=.returned (.tuple #[.string B,.int .i64 0])/\Below W.heap.size W w'))
     :
    Calls Tryz.prog 8 #[u.val,v.val] w fun e w'=>e=.returned (.bool true)/\Below w.heap.size w w':=by
  have mixed:Tryz.prog.follows .mixedOrders=true:=by kernel_rfl
  obtain ⟨X,HXX,bX,hx,hy⟩:=two7 w u v
  obtain ⟨x0,x1,x2,x3,x4,x5,x6⟩:=of7s hx
  obtain ⟨y0,y1,y2,y3,y4,y5,y6⟩:=of7s hy
  have HX:=hide hx
  have HY:=hide hy
  have BX:=hide bX
  replace HF:=hide ((uh HF) X bX)
  replace HO1:=hide (fun W (hW:Below X.heap.size X W)=>(uh HO1) W (below_sub bX hW))
  replace HO2:=hide (fun W (hW:Below X.heap.size X W)=>(uh HO2) W (below_sub bX hW))
  clear bX hx hy
  unfold Ou.val at HO1 HO2 ⊢
  go_enter Tryz.func8,Tryz.ntmps8
  go_wp2_with (first
    | (go_at_call 13;refine (uh HO2 _ (uh B2)).mono ?_;rintro e w3 ⟨rfl,b3⟩;have B3:=hide (below_sub (uh B2) b3);clear x0 x1 x2 x3 x4 x5 x6 y0 y1 y2 y3 y4 y5 y6;obtain ⟨x0,x1,x2,x3,x4,x5,x6⟩:=of7s (blk_onS (uh HX) (uh B3));obtain ⟨y0,y1,y2,y3,y4,y5,y6⟩:=of7s (blk_onS (uh HY) (uh B3));clear b3)
    | (go_at_call 13;refine (uh HO1 _ (uh B1)).mono ?_;rintro e w2 ⟨rfl,b2⟩;have B2:=hide (below_sub (uh B1) b2);clear x0 x1 x2 x3 x4 x5 x6 y0 y1 y2 y3 y4 y5 y6;obtain ⟨x0,x1,x2,x3,x4,x5,x6⟩:=of7s (blk_onS (uh HX) (uh B2));obtain ⟨y0,y1,y2,y3,y4,y5,y6⟩:=of7s (blk_onS (uh HY) (uh B2));clear b2)
    | (go_at_call 9;refine (uh HF).mono ?_;rintro e w1 ⟨rfl,b1⟩;have B1:=hide b1;clear x0 x1 x2 x3 x4 x5 x6 y0 y1 y2 y3 y4 y5 y6;obtain ⟨x0,x1,x2,x3,x4,x5,x6⟩:=of7s (blk_onS (uh HX) b1);obtain ⟨y0,y1,y2,y3,y4,y5,y6⟩:=of7s (blk_onS (uh HY) b1);clear b1))
  go_loopw [9] (fun i wr=>wr=w3/\∃ k:Nat,k<=ByteArray.size ⟨#[]⟩/\i=.int .i64 (k:Int)) (fun i _=>ByteArray.size ⟨#[]⟩ - (intOf i).toNat)
  case atStart=>exact ⟨rfl,0,Nat.zero_le _,rfl⟩
  case round =>
    obtain ⟨rfl,k,hk,rfl⟩:=hrel
    obtain rfl:k=0:=Nat.le_zero.1 hk
    go_wp2
    go_ret
    exact ⟨rfl,below_sub (uh BX) (uh B3)⟩
set_option maxHeartbeats 8000000 in
set_option maxRecDepth 100000 in
theorem lines_00 {w:World} {u v:Ou} (HF:Hid (∀ W:World,Below w.heap.size w W->Calls Tryz.prog 9 #[] W fun e w'=>e=.returned (.bool true)/\Below W.heap.size W w'))
    (HO1:Hid (∀ W:World,Below w.heap.size w W->Calls Tryz.prog 13 #[u.val] W fun e w'=>e=.returned (.tuple #[.string ⟨#[]⟩,.int .i64 1])/\Below W.heap.size W w'))
    (HO2:Hid (∀ W:World,Below w.heap.size w W->Calls Tryz.prog 13 #[v.val] W fun e w'=>e=.returned (.tuple #[.string ⟨#[]⟩,.int .i64 1])/\Below W.heap.size W w'))
     :
    Calls Tryz.prog 8 #[u.val,v.val] w fun e w'=>e=.returned (.bool true)/\Below w.heap.size w w':=by
  have mixed:Tryz.prog.follows .mixedOrders=true:=by kernel_rfl
  obtain ⟨X,HXX,bX,hx,hy⟩:=two7 w u v
  obtain ⟨x0,x1,x2,x3,x4,x5,x6⟩:=of7s hx
  obtain ⟨y0,y1,y2,y3,y4,y5,y6⟩:=of7s hy
  have HX:=hide hx
  have HY:=hide hy
  have BX:=hide bX
  replace HF:=hide ((uh HF) X bX)
  replace HO1:=hide (fun W (hW:Below X.heap.size X W)=>(uh HO1) W (below_sub bX hW))
  replace HO2:=hide (fun W (hW:Below X.heap.size X W)=>(uh HO2) W (below_sub bX hW))
  clear bX hx hy
  unfold Ou.val at HO1 HO2 ⊢
  go_enter Tryz.func8,Tryz.ntmps8
  go_wp2_with (first
    | (go_at_call 13;refine (uh HO2 _ (uh B2)).mono ?_;rintro e w3 ⟨rfl,b3⟩;have B3:=hide (below_sub (uh B2) b3);clear x0 x1 x2 x3 x4 x5 x6 y0 y1 y2 y3 y4 y5 y6;obtain ⟨x0,x1,x2,x3,x4,x5,x6⟩:=of7s (blk_onS (uh HX) (uh B3));obtain ⟨y0,y1,y2,y3,y4,y5,y6⟩:=of7s (blk_onS (uh HY) (uh B3));clear b3)
    | (go_at_call 13;refine (uh HO1 _ (uh B1)).mono ?_;rintro e w2 ⟨rfl,b2⟩;have B2:=hide (below_sub (uh B1) b2);clear x0 x1 x2 x3 x4 x5 x6 y0 y1 y2 y3 y4 y5 y6;obtain ⟨x0,x1,x2,x3,x4,x5,x6⟩:=of7s (blk_onS (uh HX) (uh B2));obtain ⟨y0,y1,y2,y3,y4,y5,y6⟩:=of7s (blk_onS (uh HY) (uh B2));clear b2)
    | (go_at_call 9;refine (uh HF).mono ?_;rintro e w1 ⟨rfl,b1⟩;have B1:=hide b1;clear x0 x1 x2 x3 x4 x5 x6 y0 y1 y2 y3 y4 y5 y6;obtain ⟨x0,x1,x2,x3,x4,x5,x6⟩:=of7s (blk_onS (uh HX) b1);obtain ⟨y0,y1,y2,y3,y4,y5,y6⟩:=of7s (blk_onS (uh HY) b1);clear b1))
  go_loopw [9] (fun i wr=>wr=w3/\∃ k:Nat,k<=ByteArray.size ⟨#[]⟩/\i=.int .i64 (k:Int)) (fun i _=>ByteArray.size ⟨#[]⟩ - (intOf i).toNat)
  case atStart=>exact ⟨rfl,0,Nat.zero_le _,rfl⟩
  case round =>
    obtain ⟨rfl,k,hk,rfl⟩:=hrel
    obtain rfl:k=0:=Nat.le_zero.1 hk
    go_wp2
    go_ret
    exact ⟨rfl,below_sub (uh BX) (uh B3)⟩
end Go.Proofs.YtdgoibnndfibnaaGreatDoor

/- Reading what Quote wrote, byte by byte: the plain functions. -/
import Derived.Test.YtdgoibnndfibnaaGreatDoorRZaa
import Derived.Test.YtdgoibnndfibnaaGreatDoorRShelf
import Derived.Lib.SmallJoins
import Derived.Lib.AppendIntMem
namespace Go.Proofs.YtdgoibnndfibnaaGreatDoor
open Go.RowKit
def hexes:List UInt8:=[48,49,50,51,52,53,54,55,56,57,97,98,99,100,101,102]
/-- A hexadecimal digit's number, or -1. -/
def idx (c:UInt8):Int:=Lib.indexByte hexes c
/-- The byte of two digits' numbers. -/
def byteOf (h l:Int):UInt8:=UInt8.ofNat (h * 16 + l).toNat
/-- The byte with whose writing a text begins, and how long that is; 0, if there is none. -/
def firstL:List UInt8->UInt8 × Nat
  | []=>(0,0)
  | c0 :: r =>
    if c0=92 then
      match r with
      | []=>(0,0)
      | c1 :: r2 =>
        if needs c1 then (c1,2)
        else if c1=120 then
          match r2 with
          | c2 :: c3 :: _=>if idx c2 < 0 ∨ idx c3 < 0 ∨ prints (byteOf (idx c2) (idx c3))=true then (0,0) else (byteOf (idx c2) (idx c3),4)
          | _=>(0,0)
        else (0,0)
    else if prints c0=true/\needs c0=false then (c0,1) else (0,0)
theorem all_bytes {p:UInt8->Bool} (h:(List.range 256).all (fun n=>p (UInt8.ofNat n))=true) (c:UInt8):p c=true:=by
 rw [List.all_eq_true] at h
 have:=h c.toNat (List.mem_range.2 c.toNat_lt)
 simpa using this
theorem idx_rng (c:UInt8):-1<=idx c/\idx c < 16:=by
 have:=all_bytes (p:=fun c=>decide (-1<=idx c/\idx c < 16)) (by decide +kernel) c
 simpa using this
theorem idx_hexd (c:UInt8) (h:0<=idx c):c=hexd (idx c).toNat:=by
 have:=all_bytes (p:=fun c=>decide (0<=idx c->c=hexd (idx c).toNat)) (by decide +kernel) c
 simp only [decide_eq_true_eq] at this
 exact this h
theorem hexd_idx (n:Nat) (h:n < 16):idx (hexd n)=n:=by
 have hh:(List.range 16).all (fun n=>decide (idx (hexd n)=n))=true:=by decide +kernel
 rw [List.all_eq_true] at hh
 simpa using hh n (List.mem_range.2 h)
theorem byte_parts (c:UInt8):byteOf (idx (hexd (c.toNat / 16))) (idx (hexd (c.toNat % 16)))=c:=by
 have:=c.toNat_lt
 rw [hexd_idx _ (by omega),hexd_idx _ (by omega)]
 unfold byteOf
 rw [show (((c.toNat / 16:Nat):Int) * 16 + ((c.toNat % 16:Nat):Int)).toNat=c.toNat by omega]
 simp
theorem parts_byte {h l:Int} (h0:0<=h) (h1:h < 16) (l0:0<=l) (l1:l < 16):(byteOf h l).toNat / 16=h.toNat/\(byteOf h l).toNat % 16=l.toNat:=by
 have e:(byteOf h l).toNat=(h * 16 + l).toNat:=by
  unfold byteOf
  rw [UInt8.toNat_ofNat',Nat.mod_eq_of_lt (by omega)]
 rw [e];omega
theorem needs_92:needs 92=true:=by decide
theorem needs_120:needs 120=false:=by decide
theorem first_esc (c:UInt8) (r:List UInt8):firstL (esc c ++ r)=(c,(esc c).length):=by
 cases hn:needs c
 ·cases hp:prints c
  ·have he:esc c=[92,120,hexd (c.toNat / 16),hexd (c.toNat % 16)]:=by unfold esc;rw [if_neg (by simp [hn]),if_neg (by simp [hp])]
   rw [he]
   have:=c.toNat_lt
   have h1:=hexd_idx (c.toNat / 16) (by omega)
   have h2:=hexd_idx (c.toNat % 16) (by omega)
   have h3:=byte_parts c
   simp only [List.cons_append,List.nil_append,firstL,if_pos,needs_120,Bool.false_eq_true,if_false]
   rw [if_neg (by rw [h3,hp,h1,h2];rintro (h | h | h);omega;omega;simp at h),h3];rfl
  ·have he:esc c=[c]:=by unfold esc;rw [if_neg (by simp [hn]),if_pos hp]
   have hc:c ≠ 92:=fun h=>by subst h;rw [needs_92] at hn;simp at hn
   rw [he]
   simp [firstL,hc,hp,hn]
 ·have he:esc c=[92,c]:=by unfold esc;rw [if_pos hn]
  rw [he]
  simp [firstL,hn]
theorem first_sound {l:List UInt8} {c:UInt8} {n:Nat} (h:firstL l=(c,n)) (hn:0 < n):∃ r,l=esc c ++ r/\n=(esc c).length:=by
 match l,h with
 | [],h=>simp [firstL] at h;omega
 | c0 :: r,h =>
  by_cases h92:c0=92
  ·subst h92
   match r,h with
   | [],h=>simp [firstL] at h;omega
   | c1 :: r2,h =>
    cases hnd:needs c1
    ·by_cases hx:c1=120
     ·subst hx
      match r2,h with
      | [],h=>simp [firstL,hnd] at h;omega
      | [_],h=>simp [firstL,hnd] at h;omega
      | c2 :: c3 :: r4,h =>
       simp only [firstL,if_pos,hnd,Bool.false_eq_true,if_false] at h
       by_cases hb:idx c2 < 0 ∨ idx c3 < 0 ∨ prints (byteOf (idx c2) (idx c3))=true
       ·rw [if_pos hb] at h;simp at h;omega
       ·rw [if_neg hb] at h
        simp only [Prod.mk.injEq] at h
        obtain ⟨rfl,rfl⟩:=h
        simp only [not_or,Bool.not_eq_true] at hb
        obtain ⟨g1,g2,g3⟩:=hb
        have r1:=idx_rng c2
        have r2:=idx_rng c3
        obtain ⟨e1,e2⟩:=parts_byte (h:=idx c2) (l:=idx c3) (by omega) r1.2 (by omega) r2.2
        have hnb:needs (byteOf (idx c2) (idx c3))=false:=by
         rw [needs_eq];rw [prints_eq] at g3
         simp at g3 ⊢;omega
        have he:esc (byteOf (idx c2) (idx c3))=[92,120,c2,c3]:=by
         unfold esc
         rw [if_neg (by simp [hnb]),if_neg (by simp [g3]),e1,e2,<- idx_hexd c2 (by omega),<- idx_hexd c3 (by omega)]
        exact ⟨r4,by rw [he];rfl,by rw [he];rfl⟩
     ·simp [firstL,hnd,hx] at h;omega
    ·simp [firstL,hnd] at h
     obtain ⟨rfl,rfl⟩:=h
     have he:esc c1=[92,c1]:=by unfold esc;rw [if_pos hnd]
     exact ⟨r2,by rw [he];rfl,by rw [he];rfl⟩
  ·by_cases hp:prints c0=true/\needs c0=false
   ·simp only [firstL,if_neg h92,if_pos hp,Prod.mk.injEq] at h
    obtain ⟨rfl,rfl⟩:=h
    have he:esc c0=[c0]:=by unfold esc;rw [if_neg (by simp [hp.2]),if_pos hp.1]
    exact ⟨r,by rw [he];rfl,by rw [he];rfl⟩
   ·simp only [firstL,if_neg h92,if_neg hp,Prod.mk.injEq] at h
    omega
end Go.Proofs.YtdgoibnndfibnaaGreatDoor
namespace Go.Proofs.YtdgoibnndfibnaaGreatDoor
open Go.RowKit
/-- What the listed variables of the library hold. -/
def G (w:World):Prop:=Lib.TabIs Tryz.prog w "internal/strconv.uint64pow10" .u64 Lib.pow10Tab/\(∃ tp p,w.var? Tryz.prog "strconv.ErrSyntax"=some #[.iface tp p])/\∃ tp p,w.var? Tryz.prog "strconv.ErrRange"=some #[.iface tp p]
theorem var_stays {w w':World} {n:String} {cs:Array Value} (hb:Below w.heap.size w w') (h:w.var? Tryz.prog n=some cs):w'.var? Tryz.prog n=some cs:=by
 unfold World.var? at h
 cases hg:Tryz.prog.globalNamed n with
 | none=>rw [hg] at h;simp at h
 | some g =>
  refine var?_below hb hg ?_ (by unfold World.var?;exact h)
  rw [hg] at h
  simp only [Option.bind_some] at h
  cases hx:w.heap[g]? with
  | none=>rw [hx] at h;simp at h
  | some o=>exact (Array.getElem?_eq_some_iff.1 hx).1
theorem G_below {w w':World} (h:G w) (hb:Below w.heap.size w w'):G w':=by
 obtain ⟨h1,⟨t,p,h2⟩,⟨t',p',h3⟩⟩:=h
 exact ⟨var_stays hb h1,⟨t,p,var_stays hb h2⟩,⟨t',p',var_stays hb h3⟩⟩
theorem G_alloc {w:World} (h:G w) (o:Obj):G (w.alloc o):=G_below h ((Below.refl _ _).alloc (Nat.le_refl _) _)
theorem below_sub {a b c:World} (h:Below a.heap.size a b) (h2:Below b.heap.size b c):Below a.heap.size a c:=h.trans (h2.mono h.size)
def quoteB (s:ByteArray):ByteArray:=⟨(quoteL s.data.toList).toArray⟩
def itoaB (n:Int):ByteArray:=⟨(Lib.itoa n).toArray⟩
theorem quote_at (s:ByteArray) (w:World) (hs:s.size<=1000000000000) :
 Calls Tryz.prog 93 #[.string s] w fun e w'=>e=.returned (.string (quoteB s))/\Below w.heap.size w w':=quote_any s w hs
theorem itoa_at (n:Int) (h0:-9223372036854775808<=n) (h1:n<=9223372036854775807) (w:World) (hG:G w) :
  Calls Tryz.prog 84 #[.int .i64 n] w fun e w'=>e=.returned (.string (itoaB n))/\Below w.heap.size w w' :=
 (Tryz.strconv_Itoa n h0 h1 w hG.1).mono fun e w' ⟨he,k,os,hw⟩=>⟨he,by rw [hw];exact Lib.below_grow _ _ (Nat.le_refl _) _ _⟩
theorem chk_range {k n:Int} {s:ByteArray} (h:chkV k n s=0):(k=1/\-2147483648<=n/\n<=2147483647/\s.size=0) ∨ (k=2/\n=0/\s.size<=64):=by
 unfold chkV at h
 by_cases hc:(k=1/\-2147483648<=n/\n<=2147483647/\s.size=0) ∨ (k=2/\n=0/\s.size<=64)
 ·exact hc
 ·rw [if_neg hc] at h;omega
theorem chk_01 (k n:Int) (s:ByteArray):chkV k n s=0 ∨ chkV k n s=1:=by unfold chkV;split <;> simp
/-- How a value is written; nothing, if it is not in form. -/
def textB (k n:Int) (s:ByteArray):ByteArray:=if chkV k n s=0 then (if k=2 then quoteB s else itoaB n) else ⟨#[]⟩
set_option maxHeartbeats 400000 in
theorem text_bad (k n:Int) (s:ByteArray) (w:World) (h:chkV k n s=1) :
  Calls Tryz.prog 117 #[.agg #[.int .i64 k,.int .i64 n,.string s]] w fun e w'=>e=.returned (.tuple #[.string (textB k n s),.int .i64 (chkV k n s)])/\Below w.heap.size w w':=by
 have ht:textB k n s=⟨#[]⟩:=by unfold textB;rw [if_neg (by omega)]
 have hc:=check_any k n s
 rw [ht,h]
 rw [h] at hc
 clear ht h
 go_enter Tryz.func117,Tryz.ntmps117
 go_wp2_with (go_at_call 115;refine (hc _).mono ?_;rintro e w' ⟨rfl,hb⟩)
 go_ret2
 exact ⟨rfl,below_sub ((Below.refl _ _).alloc (Nat.le_refl _) _) hb⟩
theorem bcell {W w1:World} (hb:Below W.heap.size W w1):(∀ b o,b < W.heap.size->w1.cell? ⟨b,o,none⟩=W.cell? ⟨b,o,none⟩)/\(∀ b o,b < W.heap.size->w1.frozen? ⟨b,o,none⟩=W.frozen? ⟨b,o,none⟩) :=
 ⟨fun b o h=>hb.cell (p:=⟨b,o,none⟩) h,fun b o h=>hb.frozen (p:=⟨b,o,none⟩) h⟩
set_option maxHeartbeats 400000 in
theorem text_word (s:ByteArray) (w:World) (h:s.size<=64) :
  Calls Tryz.prog 117 #[.agg #[.int .i64 2,.int .i64 0,.string s]] w fun e w'=>e=.returned (.tuple #[.string (textB 2 0 s),.int .i64 (chkV 2 0 s)])/\Below w.heap.size w w':=by
 have h0:chkV 2 0 s=0:=chk_yes2 rfl rfl (by omega)
 have ht:textB 2 0 s=quoteB s:=by unfold textB;rw [if_pos h0,if_pos rfl]
 have hc:=check_any 2 0 s
 rw [ht,h0]
 rw [h0] at hc
 clear ht h0
 go_enter Tryz.func117,Tryz.ntmps117
 go_wp2_with (first
  | (go_at_call 115;refine (hc _).mono ?_;rintro e w1 ⟨rfl,hb⟩;obtain ⟨hcell,hfr⟩:=bcell hb;simp at hcell)
  | (go_at_call 93;refine (quote_at s _ (by omega)).mono ?_;rintro e w2 ⟨rfl,hb2⟩))
 go_ret2
 exact ⟨rfl,below_sub (below_sub ((Below.refl _ _).alloc (Nat.le_refl _) _) hb) hb2⟩
set_option maxHeartbeats 400000 in
theorem text_int (n:Int) (s:ByteArray) (w:World) (hG:G w) (h1:-2147483648<=n) (h2:n<=2147483647) (hs:s.size=0) :
  Calls Tryz.prog 117 #[.agg #[.int .i64 1,.int .i64 n,.string s]] w fun e w'=>e=.returned (.tuple #[.string (textB 1 n s),.int .i64 (chkV 1 n s)])/\Below w.heap.size w w':=by
 have h0:chkV 1 n s=0:=chk_yes1 rfl h1 h2 ((empty_iff s).2 hs)
 have ht:textB 1 n s=itoaB n:=by unfold textB;rw [if_pos h0,if_neg (by decide)]
 have hc:=check_any 1 n s
 rw [ht,h0]
 rw [h0] at hc
 clear ht h0 hs
 go_enter Tryz.func117,Tryz.ntmps117
 go_wp2_with (first
  | (go_at_call 115;refine (hc _).mono ?_;rintro e w1 ⟨rfl,hb⟩;obtain ⟨hcell,hfr⟩:=bcell hb;simp at hcell)
  | (go_at_call 84;refine (itoa_at n (by omega) (by omega) _ (by exact G_below (G_alloc hG _) hb)).mono ?_;rintro e w2 ⟨rfl,hb2⟩))
 go_ret2
 exact ⟨rfl,below_sub (below_sub ((Below.refl _ _).alloc (Nat.le_refl _) _) hb) hb2⟩
theorem text_any (k n:Int) (s:ByteArray) (w:World) (hG:G w) :
  Calls Tryz.prog 117 #[.agg #[.int .i64 k,.int .i64 n,.string s]] w fun e w'=>e=.returned (.tuple #[.string (textB k n s),.int .i64 (chkV k n s)])/\Below w.heap.size w w':=by
 rcases chk_01 k n s with h | h
 ·rcases chk_range h with ⟨rfl,h1,h2,h3⟩ | ⟨rfl,rfl,h3⟩
  ·exact text_int n s w hG h1 h2 h3
  ·exact text_word s w h3
 ·exact text_bad k n s w h
theorem below_st3 {w w1:World} {o:Obj} (hb:Below (w.alloc o).heap.size (w.alloc o) w1) (x y z:Value):Below w.heap.size w (((w1.setCell ⟨w.heap.size,0,none⟩ x).setCell ⟨w.heap.size,1,none⟩ y).setCell ⟨w.heap.size,2,none⟩ z) :=
 (((below_sub ((Below.refl _ _).alloc (Nat.le_refl _) _) hb).setCell (Nat.le_refl _) _).setCell (Nat.le_refl _) _).setCell (Nat.le_refl _) _
set_option maxHeartbeats 400000 in
theorem read_num (s:ByteArray) (v:Int) (w:World) (hp:Lib.hasPrefix s.data.toList [34]=false) (hmax:s.size<=281474976710656) (h:Lib.atoiAll s.data.toList=.ok v) :
  Calls Tryz.prog 166 #[.string s] w fun e w'=>e=.returned (.tuple #[.agg #[.int .i64 1,.int .i64 v,.string ⟨#[]⟩],.bool true])/\Below w.heap.size w w':=by
 have hpre:=Tryz.strings_HasPrefix s ⟨#[34]⟩
 rw [show (ByteArray.mk #[34]).data.toList=[34] from rfl,hp] at hpre
 have hat:∀ w:World,Calls Tryz.prog 124 #[.string s] w fun e w'=>e=.returned (.tuple #[.int .i64 v,.nilIface])/\Below w.heap.size w w':=fun w =>
  (Tryz.strconv_Atoi_ok s (by omega) v h w).mono fun e w' ⟨he,hw⟩=>⟨he,by
   rcases hw with rfl | ⟨t,rfl⟩
   ·exact Below.refl _ _
   ·exact Lib.bytesWorld_below _ _ _⟩
 clear h hp
 go_enter Tryz.func166,Tryz.ntmps166
 go_wp2_with (first
  | (go_at_call 175;refine (hpre _).mono ?_;rintro e w' ⟨rfl,rfl⟩)
  | (go_at_call 124;refine (hat _).mono ?_;rintro e w1 ⟨rfl,hb⟩;obtain ⟨hcell,hfr⟩:=bcell hb;simp at hcell hfr))
 go_region
 go_wp2
 refine bodyPost_ret (v:=.tuple #[.agg #[.int .i64 1,.int .i64 v,.string ⟨#[]⟩],.bool true]) (by simp [results,Tryz.results166,go_sem,hcell]) rfl ⟨rfl, ?_⟩
 exact (below_st3 hb _ _ _).drew
theorem atoi_bad (s:ByteArray) (hmax:s.size<=281474976710656) (h:∀ v,Lib.atoiAll s.data.toList ≠ .ok v) (w:World) (hG:G w) :
  Calls Tryz.prog 124 #[.string s] w fun e w'=>∃ x p,e=.returned (.tuple #[.int .i64 x,.iface 185 p])/\Below w.heap.size w w':=by
 obtain ⟨_,⟨t1,p1,g1⟩,⟨t2,p2,g2⟩⟩:=hG
 cases hx:Lib.atoiAll s.data.toList with
 | ok v=>exact absurd hx (h v)
 | range=>exact (Any.strconv_Atoi_range_var Tryz.laysC172 s hmax hx t2 p2 w g2).mono fun e w' ⟨N,he,_,_,hb⟩=>⟨_,_,he,hb⟩
 | _=>exact (Any.strconv_Atoi_syntax_var Tryz.laysC172 s hmax hx t1 p1 w g1).mono fun e w' ⟨N,he,_,_,hb⟩=>⟨_,_,he,hb⟩
set_option maxHeartbeats 400000 in
theorem read_bad (s:ByteArray) (w:World) (hG:G w) (hp:Lib.hasPrefix s.data.toList [34]=false) (hmax:s.size<=281474976710656) (h:∀ v,Lib.atoiAll s.data.toList ≠ .ok v) :
  Calls Tryz.prog 166 #[.string s] w fun e w'=>(∃ x,e=.returned (.tuple #[.agg #[.int .i64 1,.int .i64 x,.string ⟨#[]⟩],.bool false]))/\Below w.heap.size w w':=by
 have hpre:=Tryz.strings_HasPrefix s ⟨#[34]⟩
 rw [show (ByteArray.mk #[34]).data.toList=[34] from rfl,hp] at hpre
 have hat:=atoi_bad s hmax h
 clear h hp
 go_enter Tryz.func166,Tryz.ntmps166
 go_wp2_with (first
  | (go_at_call 175;refine (hpre _).mono ?_;rintro e w' ⟨rfl,rfl⟩)
  | (go_at_call 124;refine (hat _ (by exact G_alloc hG _)).mono ?_;rintro e w1 ⟨x,p,rfl,hb⟩;obtain ⟨hcell,hfr⟩:=bcell hb;simp at hcell hfr))
 go_region
 go_wp2
 refine bodyPost_ret (v:=.tuple #[.agg #[.int .i64 1,.int .i64 x,.string ⟨#[]⟩],.bool false]) (by simp [results,Tryz.results166,go_sem,hcell]) rfl ⟨⟨x,rfl⟩, ?_⟩
 exact (below_st3 hb _ _ _).drew
theorem toList_ne {a b:ByteArray} (h:a ≠ b):(a.toList == b.toList)=false:=by
 rw [beq_eq_false_iff_ne]
 intro h2
 rw [ByteArray.toList_eq,ByteArray.toList_eq] at h2
 exact h (WideShapes.bytes_inj h2)
set_option maxHeartbeats 400000 in
theorem parse_wrong (s:ByteArray) (v:Int) (w:World) (hG:G w) (hp:Lib.hasPrefix s.data.toList [34]=false) (hmax:s.size<=281474976710656) (h:Lib.atoiAll s.data.toList=.ok v) (ht:textB 1 v ⟨#[]⟩ ≠ s) (hc:chkV 1 v ⟨#[]⟩=0) :
  Calls Tryz.prog 150 #[.string s] w fun e w'=>e=.returned (.tuple #[.agg #[.int .i64 0,.int .i64 0,.string ⟨#[]⟩],.int .i64 10])/\Below w.heap.size w w':=by
 have hr:=fun w=>read_num s v w hp hmax h
 have htx:=text_any 1 v ⟨#[]⟩
 generalize textB 1 v ⟨#[]⟩=tt at htx ht
 rw [hc] at htx
 have hne:=toList_ne ht
 clear h hp ht hc
 go_enter Tryz.func150,Tryz.ntmps150
 go_wp2_with (first
  | (go_at_call 166;refine (hr _).mono ?_;rintro e w1 ⟨rfl,hb⟩;obtain ⟨hcell,hfr⟩:=bcell hb;simp at hcell hfr;have hz:w.heap.size < w1.heap.size:=by (have:=hb.size;simp at this;omega))
  | (go_at_call 117;refine (htx _ (by exact G_alloc (G_below (G_alloc hG _) hb) _)).mono ?_;rintro e w2 ⟨rfl,hb2⟩;obtain ⟨hcell2,hfr2⟩:=bcell hb2;simp at hcell2 hfr2;have hz2:w.heap.size < w1.heap.size + 1:=by omega))
 refine bodyPost_ret (v:=.tuple #[.agg #[.int .i64 0,.int .i64 0,.string ⟨#[]⟩],.int .i64 10]) (by simp [results,Tryz.results150,go_sem,hcell,hcell2,hz,hz2]) rfl ⟨rfl, ?_⟩
 exact below_st3 (below_sub (below_sub hb ((Below.refl _ _).alloc (Nat.le_refl _) _)) hb2) _ _ _
end Go.Proofs.YtdgoibnndfibnaaGreatDoor

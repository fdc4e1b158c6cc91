/- What value.Text returns, for every value. -/
import Derived.Test.YtdgoibnndfibnaaGreatDoorWZaa
import Derived.Test.YtdgoibnndfibnaaGreatDoorWShelf
import Derived.Lib.SmallJoins
import Derived.Lib.AppendIntMem
namespace Go.Proofs.YtdgoibnndfibnaaGreatDoor
open Go.RowKit
/-- What the listed variables of the library hold. -/
def G (w:World):Prop:=Lib.TabIs Tryz.prog w "internal/strconv.uint64pow10" .u64 Lib.pow10Tab/\(∃ tp p,w.var? Tryz.prog "strconv.ErrSyntax"=some #[.iface tp p])/\∃ tp p,w.var? Tryz.prog "strconv.ErrRange"=some #[.iface tp p]
theorem var_stays {w w':World} {n:String} {cs:Array Value} (hb:Below w.heap.size w w') (h:w.var? Tryz.prog n=some cs):w'.var? Tryz.prog n=some cs:=by
 unfold World.var? at h
 cases hg:Tryz.prog.globalNamed n with
 | none=>rw [hg] at h;simp at h
 | some g =>
  refine var?_below hb hg ?_ (by unfold World.var?;exact h)
  rw [hg] at h
  simp only [Option.bind_some] at h
  cases hx:w.heap[g]? with
  | none=>rw [hx] at h;simp at h
  | some o=>exact (Array.getElem?_eq_some_iff.1 hx).1
theorem G_below {w w':World} (h:G w) (hb:Below w.heap.size w w'):G w':=by
 obtain ⟨h1,⟨t,p,h2⟩,⟨t',p',h3⟩⟩:=h
 exact ⟨var_stays hb h1,⟨t,p,var_stays hb h2⟩,⟨t',p',var_stays hb h3⟩⟩
theorem G_alloc {w:World} (h:G w) (o:Obj):G (w.alloc o):=G_below h ((Below.refl _ _).alloc (Nat.le_refl _) _)
theorem below_sub {a b c:World} (h:Below a.heap.size a b) (h2:Below b.heap.size b c):Below a.heap.size a c:=h.trans (h2.mono h.size)
def quoteB (s:ByteArray):ByteArray:=⟨(quoteL s.data.toList).toArray⟩
def itoaB (n:Int):ByteArray:=⟨(Lib.itoa n).toArray⟩
theorem quote_at (s:ByteArray) (w:World) (hs:s.size<=1000000000000) :
 Calls Tryz.prog 93 #[.string s] w fun e w'=>e=.returned (.string (quoteB s))/\Below w.heap.size w w':=quote_any s w hs
theorem itoa_at (n:Int) (h0:-9223372036854775808<=n) (h1:n<=9223372036854775807) (w:World) (hG:G w) :
  Calls Tryz.prog 84 #[.int .i64 n] w fun e w'=>e=.returned (.string (itoaB n))/\Below w.heap.size w w' :=
 (Tryz.strconv_Itoa n h0 h1 w hG.1).mono fun e w' ⟨he,k,os,hw⟩=>⟨he,by rw [hw];exact Lib.below_grow _ _ (Nat.le_refl _) _ _⟩
theorem chk_range {k n:Int} {s:ByteArray} (h:chkV k n s=0):(k=1/\-2147483648<=n/\n<=2147483647/\s.size=0) ∨ (k=2/\n=0/\s.size<=64):=by
 unfold chkV at h
 by_cases hc:(k=1/\-2147483648<=n/\n<=2147483647/\s.size=0) ∨ (k=2/\n=0/\s.size<=64)
 ·exact hc
 ·rw [if_neg hc] at h;omega
theorem chk_01 (k n:Int) (s:ByteArray):chkV k n s=0 ∨ chkV k n s=1:=by unfold chkV;split <;> simp
/-- How a value is written; nothing, if it is not in form. -/
def textB (k n:Int) (s:ByteArray):ByteArray:=if chkV k n s=0 then (if k=2 then quoteB s else itoaB n) else ⟨#[]⟩
set_option maxHeartbeats 400000 in
theorem text_bad (k n:Int) (s:ByteArray) (w:World) (h:chkV k n s=1) :
  Calls Tryz.prog 117 #[.agg #[.int .i64 k,.int .i64 n,.string s]] w fun e w'=>e=.returned (.tuple #[.string (textB k n s),.int .i64 (chkV k n s)])/\Below w.heap.size w w':=by
 have ht:textB k n s=⟨#[]⟩:=by unfold textB;rw [if_neg (by omega)]
 have hc:=check_any k n s
 rw [ht,h]
 rw [h] at hc
 clear ht h
 go_enter Tryz.func117,Tryz.ntmps117
 go_wp2_with (go_at_call 115;refine (hc _).mono ?_;rintro e w' ⟨rfl,hb⟩)
 go_ret2
 exact ⟨rfl,below_sub ((Below.refl _ _).alloc (Nat.le_refl _) _) hb⟩
theorem bcell {W w1:World} (hb:Below W.heap.size W w1):(∀ b o,b < W.heap.size->w1.cell? ⟨b,o,none⟩=W.cell? ⟨b,o,none⟩)/\(∀ b o,b < W.heap.size->w1.frozen? ⟨b,o,none⟩=W.frozen? ⟨b,o,none⟩) :=
 ⟨fun b o h=>hb.cell (p:=⟨b,o,none⟩) h,fun b o h=>hb.frozen (p:=⟨b,o,none⟩) h⟩
set_option maxHeartbeats 400000 in
theorem text_word (s:ByteArray) (w:World) (h:s.size<=64) :
  Calls Tryz.prog 117 #[.agg #[.int .i64 2,.int .i64 0,.string s]] w fun e w'=>e=.returned (.tuple #[.string (textB 2 0 s),.int .i64 (chkV 2 0 s)])/\Below w.heap.size w w':=by
 have h0:chkV 2 0 s=0:=chk_yes2 rfl rfl (by omega)
 have ht:textB 2 0 s=quoteB s:=by unfold textB;rw [if_pos h0,if_pos rfl]
 have hc:=check_any 2 0 s
 rw [ht,h0]
 rw [h0] at hc
 clear ht h0
 go_enter Tryz.func117,Tryz.ntmps117
 go_wp2_with (first
  | (go_at_call 115;refine (hc _).mono ?_;rintro e w1 ⟨rfl,hb⟩;obtain ⟨hcell,hfr⟩:=bcell hb;simp at hcell)
  | (go_at_call 93;refine (quote_at s _ (by omega)).mono ?_;rintro e w2 ⟨rfl,hb2⟩))
 go_ret2
 exact ⟨rfl,below_sub (below_sub ((Below.refl _ _).alloc (Nat.le_refl _) _) hb) hb2⟩
set_option maxHeartbeats 400000 in
theorem text_int (n:Int) (s:ByteArray) (w:World) (hG:G w) (h1:-2147483648<=n) (h2:n<=2147483647) (hs:s.size=0) :
  Calls Tryz.prog 117 #[.agg #[.int .i64 1,.int .i64 n,.string s]] w fun e w'=>e=.returned (.tuple #[.string (textB 1 n s),.int .i64 (chkV 1 n s)])/\Below w.heap.size w w':=by
 have h0:chkV 1 n s=0:=chk_yes1 rfl h1 h2 ((empty_iff s).2 hs)
 have ht:textB 1 n s=itoaB n:=by unfold textB;rw [if_pos h0,if_neg (by decide)]
 have hc:=check_any 1 n s
 rw [ht,h0]
 rw [h0] at hc
 clear ht h0 hs
 go_enter Tryz.func117,Tryz.ntmps117
 go_wp2_with (first
  | (go_at_call 115;refine (hc _).mono ?_;rintro e w1 ⟨rfl,hb⟩;obtain ⟨hcell,hfr⟩:=bcell hb;simp at hcell)
  | (go_at_call 84;refine (itoa_at n (by omega) (by omega) _ (by exact G_below (G_alloc hG _) hb)).mono ?_;rintro e w2 ⟨rfl,hb2⟩))
 go_ret2
 exact ⟨rfl,below_sub (below_sub ((Below.refl _ _).alloc (Nat.le_refl _) _) hb) hb2⟩
theorem text_any (k n:Int) (s:ByteArray) (w:World) (hG:G w) :
  Calls Tryz.prog 117 #[.agg #[.int .i64 k,.int .i64 n,.string s]] w fun e w'=>e=.returned (.tuple #[.string (textB k n s),.int .i64 (chkV k n s)])/\Below w.heap.size w w':=by
 rcases chk_01 k n s with h | h
 ·rcases chk_range h with ⟨rfl,h1,h2,h3⟩ | ⟨rfl,rfl,h3⟩
  ·exact text_int n s w hG h1 h2 h3
  ·exact text_word s w h3
 ·exact text_bad k n s w h
theorem below_st3 {w w1:World} {o:Obj} (hb:Below (w.alloc o).heap.size (w.alloc o) w1) (x y z:Value):Below w.heap.size w (((w1.setCell ⟨w.heap.size,0,none⟩ x).setCell ⟨w.heap.size,1,none⟩ y).setCell ⟨w.heap.size,2,none⟩ z) :=
 (((below_sub ((Below.refl _ _).alloc (Nat.le_refl _) _) hb).setCell (Nat.le_refl _) _).setCell (Nat.le_refl _) _).setCell (Nat.le_refl _) _
set_option maxHeartbeats 400000 in
theorem read_num (s:ByteArray) (v:Int) (w:World) (hp:Lib.hasPrefix s.data.toList [34]=false) (hmax:s.size<=281474976710656) (h:Lib.atoiAll s.data.toList=.ok v) :
  Calls Tryz.prog 166 #[.string s] w fun e w'=>e=.returned (.tuple #[.agg #[.int .i64 1,.int .i64 v,.string ⟨#[]⟩],.bool true])/\Below w.heap.size w w':=by
 have hpre:=Tryz.strings_HasPrefix s ⟨#[34]⟩
 rw [show (ByteArray.mk #[34]).data.toList=[34] from rfl,hp] at hpre
 have hat:∀ w:World,Calls Tryz.prog 124 #[.string s] w fun e w'=>e=.returned (.tuple #[.int .i64 v,.nilIface])/\Below w.heap.size w w':=fun w =>
  (Tryz.strconv_Atoi_ok s (by omega) v h w).mono fun e w' ⟨he,hw⟩=>⟨he,by
   rcases hw with rfl | ⟨t,rfl⟩
   ·exact Below.refl _ _
   ·exact Lib.bytesWorld_below _ _ _⟩
 clear h hp
 go_enter Tryz.func166,Tryz.ntmps166
 go_wp2_with (first
  | (go_at_call 175;refine (hpre _).mono ?_;rintro e w' ⟨rfl,rfl⟩)
  | (go_at_call 124;refine (hat _).mono ?_;rintro e w1 ⟨rfl,hb⟩;obtain ⟨hcell,hfr⟩:=bcell hb;simp at hcell hfr))
 go_region
 go_wp2
 refine bodyPost_ret (v:=.tuple #[.agg #[.int .i64 1,.int .i64 v,.string ⟨#[]⟩],.bool true]) (by simp [results,Tryz.results166,go_sem,hcell]) rfl ⟨rfl, ?_⟩
 exact (below_st3 hb _ _ _).drew
theorem atoi_bad (s:ByteArray) (hmax:s.size<=281474976710656) (h:∀ v,Lib.atoiAll s.data.toList ≠ .ok v) (w:World) (hG:G w) :
  Calls Tryz.prog 124 #[.string s] w fun e w'=>∃ x p,e=.returned (.tuple #[.int .i64 x,.iface 185 p])/\Below w.heap.size w w':=by
 obtain ⟨_,⟨t1,p1,g1⟩,⟨t2,p2,g2⟩⟩:=hG
 cases hx:Lib.atoiAll s.data.toList with
 | ok v=>exact absurd hx (h v)
 | range=>exact (Any.strconv_Atoi_range_var Tryz.laysC172 s hmax hx t2 p2 w g2).mono fun e w' ⟨N,he,_,_,hb⟩=>⟨_,_,he,hb⟩
 | _=>exact (Any.strconv_Atoi_syntax_var Tryz.laysC172 s hmax hx t1 p1 w g1).mono fun e w' ⟨N,he,_,_,hb⟩=>⟨_,_,he,hb⟩
set_option maxHeartbeats 400000 in
theorem read_bad (s:ByteArray) (w:World) (hG:G w) (hp:Lib.hasPrefix s.data.toList [34]=false) (hmax:s.size<=281474976710656) (h:∀ v,Lib.atoiAll s.data.toList ≠ .ok v) :
  Calls Tryz.prog 166 #[.string s] w fun e w'=>(∃ x,e=.returned (.tuple #[.agg #[.int .i64 1,.int .i64 x,.string ⟨#[]⟩],.bool false]))/\Below w.heap.size w w':=by
 have hpre:=Tryz.strings_HasPrefix s ⟨#[34]⟩
 rw [show (ByteArray.mk #[34]).data.toList=[34] from rfl,hp] at hpre
 have hat:=atoi_bad s hmax h
 clear h hp
 go_enter Tryz.func166,Tryz.ntmps166
 go_wp2_with (first
  | (go_at_call 175;refine (hpre _).mono ?_;rintro e w' ⟨rfl,rfl⟩)
  | (go_at_call 124;refine (hat _ (by exact G_alloc hG _)).mono ?_;rintro e w1 ⟨x,p,rfl,hb⟩;obtain ⟨hcell,hfr⟩:=bcell hb;simp at hcell hfr))
 go_region
 go_wp2
 refine bodyPost_ret (v:=.tuple #[.agg #[.int .i64 1,.int .i64 x,.string ⟨#[]⟩],.bool false]) (by simp [results,Tryz.results166,go_sem,hcell]) rfl ⟨⟨x,rfl⟩, ?_⟩
 exact (below_st3 hb _ _ _).drew
theorem toList_ne {a b:ByteArray} (h:a ≠ b):(a.toList == b.toList)=false:=by
 rw [beq_eq_false_iff_ne]
 intro h2
 rw [ByteArray.toList_eq,ByteArray.toList_eq] at h2
 exact h (WideShapes.bytes_inj h2)
set_option maxHeartbeats 400000 in
theorem parse_wrong (s:ByteArray) (v:Int) (w:World) (hG:G w) (hp:Lib.hasPrefix s.data.toList [34]=false) (hmax:s.size<=281474976710656) (h:Lib.atoiAll s.data.toList=.ok v) (ht:textB 1 v ⟨#[]⟩ ≠ s) (hc:chkV 1 v ⟨#[]⟩=0) :
  Calls Tryz.prog 150 #[.string s] w fun e w'=>e=.returned (.tuple #[.agg #[.int .i64 0,.int .i64 0,.string ⟨#[]⟩],.int .i64 10])/\Below w.heap.size w w':=by
 have hr:=fun w=>read_num s v w hp hmax h
 have htx:=text_any 1 v ⟨#[]⟩
 generalize textB 1 v ⟨#[]⟩=tt at htx ht
 rw [hc] at htx
 have hne:=toList_ne ht
 clear h hp ht hc
 go_enter Tryz.func150,Tryz.ntmps150
 go_wp2_with (first
  | (go_at_call 166;refine (hr _).mono ?_;rintro e w1 ⟨rfl,hb⟩;obtain ⟨hcell,hfr⟩:=bcell hb;simp at hcell hfr;have hz:w.heap.size < w1.heap.size:=by (have:=hb.size;simp at this;omega))
  | (go_at_call 117;refine (htx _ (by exact G_alloc (G_below (G_alloc hG _) hb) _)).mono ?_;rintro e w2 ⟨rfl,hb2⟩;obtain ⟨hcell2,hfr2⟩:=bcell hb2;simp at hcell2 hfr2;have hz2:w.heap.size < w1.heap.size + 1:=by omega))
 refine bodyPost_ret (v:=.tuple #[.agg #[.int .i64 0,.int .i64 0,.string ⟨#[]⟩],.int .i64 10]) (by simp [results,Tryz.results150,go_sem,hcell,hcell2,hz,hz2]) rfl ⟨rfl, ?_⟩
 exact below_st3 (below_sub (below_sub hb ((Below.refl _ _).alloc (Nat.le_refl _) _)) hb2) _ _ _
end Go.Proofs.YtdgoibnndfibnaaGreatDoor
namespace Go.Proofs.YtdgoibnndfibnaaGreatDoor
open Go.RowKit
theorem esc_needs {c:UInt8} (h:needs c=true):esc c=[92,c]:=by unfold esc;rw [if_pos h]
theorem esc_prints {c:UInt8} (h:needs c=false) (hp:prints c=true):esc c=[c]:=by unfold esc;rw [if_neg (by simp [h]),if_pos hp]
theorem esc_hex {c:UInt8} (hp:prints c=false):esc c=[92,120,hexd (c.toNat / 16),hexd (c.toNat % 16)]:=by
 have h:needs c=false:=by
  rw [needs_eq];rw [prints_eq] at hp
  simp at hp ⊢;omega
 unfold esc;rw [if_neg (by simp [h]),if_neg (by simp [hp])]
theorem row_one {B:Nat} {w:World} (hB:B<=w.heap.size):Row B (w.alloc (.cells #[.int .u8 34] 5)) (.slice (some ⟨w.heap.size,0,none⟩) 1 1) (34 :: escs []):=by
 refine ⟨rfl,.inr ⟨w.heap.size,1,#[.int .u8 34],rfl,hB,heap_alloc_new _ _,Nat.le_refl _,by unfold maxLen;omega,rfl,rfl⟩⟩
theorem div_facts (c:UInt8):(c.toNat:Int).tdiv 16=(c.toNat:Int) / 16/\(c.toNat:Int).tmod 16=(c.toNat:Int) % 16/\IntKind.u8.wrap ((c.toNat:Int) / 16)=(c.toNat:Int) / 16/\IntKind.u8.wrap ((c.toNat:Int) % 16)=(c.toNat:Int) % 16/\((c.toNat:Int) / 16) % 256=(c.toNat:Int) / 16/\((c.toNat:Int) % 16) % 256=(c.toNat:Int) % 16:=by
 have:=c.toNat_lt
 have e:(2:Int) ^ IntKind.u8.bits=256:=by decide
 refine ⟨Int.tdiv_eq_ediv_of_nonneg (by omega),Int.tmod_eq_emod_of_nonneg (by omega), ?_, ?_,by omega,by omega⟩
 ·simp [IntKind.wrap,e,show IntKind.u8.signed=false from rfl];omega
 ·simp [IntKind.wrap,e,show IntKind.u8.signed=false from rfl];omega
set_option maxRecDepth 100000 in
set_option maxHeartbeats 1000000 in
theorem refQuote_any (s:ByteArray) (w:World) (hs:s.size<=1000000000000) :
    Calls Tryz.prog 67 #[.string s] w fun e w'=>e=.returned (.string (quoteB s))/\Below w.heap.size w w':=by
  obtain ⟨i0,hi,hz0,hz1,hz2⟩:=info_parts Tryz.info5
  have R:=row_one (w:=w) (Nat.le_refl _)
  go_enter Tryz.func67,Tryz.ntmps67
  go_wp2
  go_loopw [3,4] (fun v i wr=>∃ k:Nat,k<=s.size/\i=.int .i64 k/\Row w.heap.size wr v (34 :: escs (s.data.toList.take k))/\Below w.heap.size w wr) (fun _ i _=>s.size - (intOf i).toNat)
  case atStart=>exact ⟨0,Nat.zero_le _,rfl,R,(Below.refl _ _).alloc (Nat.le_refl _) _⟩
  case round =>
    clear R
    obtain ⟨k,hk,rfl,hrow,hb⟩:=hrel
    have hle:=escs_le (s.data.toList.take k)
    have hl:(s.data.toList.take k).length<=k:=List.length_take_le _ _
    by_cases hlt:k < s.size
    · have hsn:=hide (escs_snoc (s.data.toList.take k) s[k])
      have hts:=hide (take_snoc s k hlt)
      have hlb:(34 :: escs (s.data.toList.take k)).length<=5000000000000:=by simp;omega
      generalize hL:(34 :: escs (s.data.toList.take k))=L at hrow hlb
      have HL:=hide hL
      clear hL hle hl
      unfold Row at hrow
      have hBs:=hb.size
      have hc:=s[k].toNat_lt
      cases hp:prints s[k]
      · have he:=hide (esc_hex hp)
        rw [prints_eq] at hp
        have hd:=hide (And.intro (show 0<=(s[k].toNat:Int) / 16 by omega) (And.intro (show (s[k].toNat:Int) / 16 < 16 by omega) (And.intro (show 0<=(s[k].toNat:Int) % 16 by omega) (show (s[k].toNat:Int) % 16 < 16 by omega))))
        clear hc
        have hcase:(s[k].toNat:Int) < 32 ∨ (¬ (s[k].toNat:Int) < 32/\(126:Int) < s[k].toNat):=by simp at hp;omega
        clear hp
        rcases hcase with h32 | ⟨h32,h126⟩
        all_goals
          go_wp2
          obtain ⟨b1,b2,b3,b4⟩:=uh hd
          clear hd
          obtain ⟨e1,e2,e3,e4,e5,e6⟩:=div_facts s[k]
          go_region_held3 (fun _=>True) (go_keep)
            ((refine step_append_lies _ (by rfl) _ _ _ (by rfl) w.heap.size 5 i0 (.int .u8 0) 1 1 Tryz.underlying67 hi hz0 hz1 hz2 (by rfl) (by decide) u3 L.length (L.map bv) (by rfl) (by exact (hrow.alloc _)) _ 4 4 _ (by rfl) (by rfl) (World.news_of_block (heap_alloc_new _ _)) (by simp [Value.oneCell']) (by decide) (by unfold maxLen;omega) (by omega) (by simp;omega) _ rfl ?_;intro g cap w1 hown1 hgrow hat hlt2))
        all_goals
          rw [hexAt,hexAt,show ((s[k].toNat:Int) / 16).toNat=s[k].toNat / 16 from by omega,show ((s[k].toNat:Int) % 16).toNat=s[k].toNat % 16 from by omega] at hown1
          have R2:=hide (And.intro (row_of (m:=[92,120,hexd (s[k].toNat / 16),hexd (s[k].toNat % 16)]) rfl hown1) (grown_row hrow hBs (((Below.refl _ _).alloc hBs _).drew) (by simp) hgrow))
          clear hown1 hgrow hat hlt2 e1 e2 e3 e4 e5 e6
          go_wp2
          go_roundw
          case rel=>exact ⟨k + 1,by omega,by go_num,by rw [uh hts,uh hsn,<- List.cons_append,uh HL,uh he];exact (uh R2).1,hb.trans (uh R2).2⟩
          case measure=>simp [intOf];omega
      · clear hc
        cases hn:needs s[k]
        · have he:=hide (esc_prints hn hp)
          rw [prints_eq] at hp
          rw [needs_eq] at hn
          simp only [Bool.and_eq_true,decide_eq_true_eq,Bool.or_eq_false_iff] at hp hn
          obtain ⟨p1,p2⟩:=hp
          obtain ⟨n1,n2⟩:=hn
          go_wp2_with (at_builtin;go_must (refine wpList_append_own _ rfl _ _ 67 rfl w.heap.size 5 i0 (.int .u8 0) 1 1 Tryz.underlying67 hi hz0 hz1 hz2 rfl (by decide) _ _ _ rfl (hrow.alloc _) ⟨_,0,none⟩ 1 1 [bv s[k]] rfl rfl news1 (bv_one [s[k]]) (by unfold maxLen;omega) (by omega) (by simp;omega) ?_);intro v2 w2 hown2 hgrow2 hn2;have R2:=hide (And.intro (row_of (m:=[s[k]]) rfl hown2) (grown_row hrow hBs ((Below.refl _ _).alloc hBs _) (by simp) hgrow2));clear hown2 hgrow2 hn2)
          go_roundw
          case rel=>exact ⟨k + 1,by omega,by go_num,by rw [uh hts,uh hsn,<- List.cons_append,uh HL,uh he];exact (uh R2).1,hb.trans (uh R2).2⟩
          case measure=>simp [intOf];omega
        · have he:=hide (esc_needs hn)
          rw [prints_eq] at hp
          rw [needs_eq] at hn
          simp only [Bool.and_eq_true,decide_eq_true_eq] at hp
          obtain ⟨p1,p2⟩:=hp
          have hcase:((s[k].toNat:Int) == 34)=true ∨ (((s[k].toNat:Int) == 34)=false/\((s[k].toNat:Int) == 92)=true):=by
            cases h34:((s[k].toNat:Int) == 34)
            · right;rw [h34] at hn;simpa using hn
            · left;rfl
          clear hn
          rcases hcase with n1 | ⟨n1,n2⟩
          all_goals
            go_wp2_with (first
              | (at_builtin;refine wpList_append_own _ rfl (.tmp 37) (.tmp 38) 67 rfl w.heap.size 5 i0 (.int .u8 0) 1 1 Tryz.underlying67 hi hz0 hz1 hz2 rfl (by decide) _ _ _ rfl (hrow.alloc _) ⟨_,0,none⟩ 1 1 [bv 92] rfl rfl news1 (bv_one [92]) (by unfold maxLen;omega) (by omega) (by simp;omega) ?_;intro v2 w2 hown2 hgrow2 hn2;have R2:=hide (And.intro (row_of (m:=[92]) rfl hown2) (grown_row hrow hBs ((Below.refl _ _).alloc hBs _) (by simp) hgrow2));clear hown2 hgrow2 hn2;have hBs2:w.heap.size<=w2.heap.size:=(by have:=(uh R2).2.size;omega);have hl2:(L ++ [92]).length<=5000000000001:=(by simp;omega);have hrow2:w2.ownsRow w.heap.size 5 1 v2 (L ++ [92]).length ((L ++ [92]).map bv):=(uh R2).1;generalize hM:L ++ [92]=M at hrow2 hl2;have HM:=hide hM;clear hM)
              | (at_builtin;refine wpList_append_own _ rfl (.tmp 40) (.tmp 42) 67 rfl w.heap.size 5 i0 (.int .u8 0) 1 1 Tryz.underlying67 hi hz0 hz1 hz2 rfl (by decide) _ _ _ rfl (hrow2.alloc _) ⟨_,0,none⟩ 1 1 [bv s[k]] rfl rfl news1 (bv_one [s[k]]) (by unfold maxLen;omega) (by omega) (by simp;omega) ?_;intro v3 w3 hown3 hgrow3 hn3;have R3:=hide (And.intro (row_of (m:=[s[k]]) rfl hown3) (grown_row hrow2 hBs2 ((Below.refl _ _).alloc hBs2 _) (by simp) hgrow3));clear hown3 hgrow3 hn3))
            go_roundw
            case rel=>exact ⟨k + 1,by omega,by go_num,by rw [uh hts,uh hsn,<- List.cons_append,uh HL,uh he,show L ++ [92,s[k]]=(L ++ [92]) ++ [s[k]] by simp,uh HM];exact (uh R3).1,(hb.trans (uh R2).2).trans (uh R3).2⟩
            case measure=>simp [intOf];omega
    · have hend:=hide (List.take_of_length_le (l:=s.data.toList) (i:=k) (by simp;omega))
      unfold Row at hrow
      go_wp2_with (at_builtin;refine wpList_append_own _ rfl _ _ 67 rfl w.heap.size 5 i0 (.int .u8 0) 1 1 Tryz.underlying67 hi hz0 hz1 hz2 rfl (by decide) _ _ _ rfl (hrow.alloc _) ⟨_,0,none⟩ 1 1 [bv 34] rfl rfl news1 (bv_one [34]) (by unfold maxLen;simp;omega) (by simp;omega) (by have:=hb.size;simp;omega) ?_;intro v2 w2 hown2 hgrow2 hn2;have hcv:=conv_row (row_of (m:=[34]) rfl hown2) (by simp);have hB:=hide (grown_row hrow hb.size ((Below.refl _ _).alloc hb.size _) (by simp) hgrow2);clear hown2 hgrow2 hn2 hrow)
      go_ret
      exact ⟨ret_str (by rw [uh hend];rfl),hb.trans (uh hB)⟩
end Go.Proofs.YtdgoibnndfibnaaGreatDoor

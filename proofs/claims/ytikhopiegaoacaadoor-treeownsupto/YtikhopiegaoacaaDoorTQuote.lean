/- What value.Quote returns: the bytes of a text written within quotation marks, byte by byte. -/
import Derived.Test.YtikhopiegaoacaaDoorTLeaf
import Derived.Deep.AppendLies
namespace Go.Proofs.YtikhopiegaoacaaDoor
open Go.RowKit

theorem Tryd.info5:(Tryd.prog.info? 5).map (fun i=>(i.zero,i.size,i.bytes))=some (some (.int .u8 0),1,1):=by kernel_rfl

/-- A byte as a cell. -/
def bv (b:UInt8):Value:=.int .u8 (b.toNat:Int)
/-- The slice v owns the bytes l, in blocks from B on. -/
def Row (B:Nat) (w:World) (v:Value) (l:List UInt8):Prop:=w.ownsRow B 5 1 v l.length (l.map bv)

def hexd (n:Nat):UInt8:=if n < 10 then UInt8.ofNat (48 + n) else UInt8.ofNat (87 + n)
def needs (c:UInt8):Bool:=c == 34 || c == 92
def prints (c:UInt8):Bool:=decide (32≤c.toNat) && decide (c.toNat≤126)
/-- How a byte is written. -/
def esc (c:UInt8):List UInt8 :=
  if needs c then [92,c] else if prints c then [c] else [92,120,hexd (c.toNat / 16),hexd (c.toNat % 16)]
theorem esc_le (c:UInt8):(esc c).length≤4:=by unfold esc;split;simp;split <;> simp

theorem needs_eq (c:UInt8):needs c=(((c.toNat:Int) == 34) || ((c.toNat:Int) == 92)):=by
  unfold needs;rw [Bool.eq_iff_iff];simp [← UInt8.toNat_inj];omega
theorem prints_eq (c:UInt8):prints c=(decide (32≤(c.toNat:Int)) && decide ((c.toNat:Int)≤126)):=by
  unfold prints;rw [Bool.eq_iff_iff];simp;omega
set_option maxHeartbeats 400000 in
theorem needs_any (c:UInt8) (w:World) :
    Calls Tryd.prog 72 #[.int .u8 (c.toNat:Int)] w fun e w'=>e=.returned (.bool (needs c))∧w'=w:=by
  go_enter Tryd.func72,Tryd.ntmps72
  go_wp2
  all_goals (go_ret;refine ⟨ret_bool ?_,rfl⟩;rw [needs_eq];try simp [*])

set_option maxHeartbeats 400000 in
theorem prints_any (c:UInt8) (w:World) :
    Calls Tryd.prog 73 #[.int .u8 (c.toNat:Int)] w fun e w'=>e=.returned (.bool (prints c))∧w'=w:=by
  go_enter Tryd.func73,Tryd.ntmps73
  go_wp2
  all_goals (go_ret;refine ⟨ret_bool ?_,rfl⟩;rw [prints_eq];try (simp [*]);try omega)

theorem bv_one (l:List UInt8):∀ u ∈ l.map bv,u.oneCell'=true:=by
  intro u hu;obtain ⟨b,_,rfl⟩:=List.mem_map.1 hu;rfl

theorem grown_row {B:Nat} {w w1 w2:World} {v:Value} {l:List UInt8} (hown:w.ownsRow B 5 1 v l.length (l.map bv)) (hB:B≤w.heap.size) (h1:Below B w w1) (hs:w.heap.size≤w1.heap.size) (hg:w1.grownBy w2 v.ownBlock):Below B w w2 :=
  h1.grown hg (by omega) (fun k hk=>(hown.lt k hk).1)
theorem row_of {B:Nat} {w:World} {v:Value} {l m:List UInt8} {k:Nat} (hk:m.length=k) (h:w.ownsRow B 5 1 v (l.length + k) (l.map bv ++ m.map bv)):Row B w v (l ++ m):=by
  unfold Row;rw [List.length_append,List.map_append,hk];exact h

set_option maxHeartbeats 1000000 in
theorem appendByte_needs (B:Nat) (v:Value) (l:List UInt8) (c:UInt8) (w:World) (hc:needs c=true) (hown:Row B w v l) (hB:B≤w.heap.size) (hl:l.length≤10000000000000) :
    Calls Tryd.prog 70 #[v,.int .u8 (c.toNat:Int)] w fun e w'=>∃ v',e=.returned v'∧Row B w' v' (l ++ esc c)∧Below B w w':=by
  have hn:=needs_any c
  rw [hc] at hn
  have he:esc c=[92,c]:=by unfold esc;rw [if_pos hc]
  rw [he]
  clear hc he
  obtain ⟨i0,hi,hz0,hz1,hz2⟩:=info_parts Tryd.info5
  unfold Row at hown
  go_enter Tryd.func70,Tryd.ntmps70
  go_wp2_with (first
    | (go_at_call 72;refine (hn _).mono ?_;rintro e w' ⟨rfl,rfl⟩)
    | (at_builtin;refine wpList_append_own _ rfl _ _ 53 rfl B 5 i0 (.int .u8 0) 1 1 Tryd.underlying53 hi hz0 hz1 hz2 rfl (by decide) _ _ _ rfl (hown.alloc _) ⟨_,0,none⟩ 2 2 [bv 92,bv c] rfl rfl ?c1 (bv_one [92,c]) ?c3 ?c4 ?c5 ?_))
  case c1 =>
    intro j u hj
    match j,hj with
    | 0,hj=>simp at hj;subst hj;simp [Addr.add,bv]
    | 1,hj=>simp at hj;subst hj;simp [Addr.add,bv]
  case c3=>unfold maxLen;omega
  case c4=>omega
  case c5=>simp;omega
  · intro v' w1 hown' hgrow _
    go_wp2
    go_ret
    refine ⟨v',rfl,row_of (m:=[92,c]) rfl hown',grown_row hown hB ((Below.refl _ _).alloc hB _) (by simp) hgrow⟩

set_option maxHeartbeats 1000000 in
theorem appendByte_prints (B:Nat) (v:Value) (l:List UInt8) (c:UInt8) (w:World) (hc:needs c=false) (hp:prints c=true) (hown:Row B w v l) (hB:B≤w.heap.size) (hl:l.length≤10000000000000) :
    Calls Tryd.prog 70 #[v,.int .u8 (c.toNat:Int)] w fun e w'=>∃ v',e=.returned v'∧Row B w' v' (l ++ esc c)∧Below B w w':=by
  have hn:=needs_any c
  rw [hc] at hn
  have hq:=prints_any c
  rw [hp] at hq
  have he:esc c=[c]:=by unfold esc;rw [if_neg (by simp [hc]),if_pos hp]
  rw [he]
  clear hc he hp
  obtain ⟨i0,hi,hz0,hz1,hz2⟩:=info_parts Tryd.info5
  unfold Row at hown
  go_enter Tryd.func70,Tryd.ntmps70
  go_wp2_with (first
    | (go_at_call 72;refine (hn _).mono ?_;rintro e w' ⟨rfl,rfl⟩)
    | (go_at_call 73;refine (hq _).mono ?_;rintro e w' ⟨rfl,rfl⟩)
    | (at_builtin;refine wpList_append_own _ rfl _ _ 53 rfl B 5 i0 (.int .u8 0) 1 1 Tryd.underlying53 hi hz0 hz1 hz2 rfl (by decide) _ _ _ rfl (hown.alloc _) ⟨_,0,none⟩ 1 1 [bv c] rfl rfl ?c1 (bv_one [c]) ?c3 ?c4 ?c5 ?_))
  case c1 =>
    intro j u hj
    match j,hj with
    | 0,hj=>simp at hj;subst hj;simp [Addr.add,bv]
  case c3=>unfold maxLen;omega
  case c4=>omega
  case c5=>simp;omega
  · intro v' w1 hown' hgrow _
    go_wp2
    go_ret
    refine ⟨v',rfl,row_of (m:=[c]) rfl hown',grown_row hown hB ((Below.refl _ _).alloc hB _) (by simp) hgrow⟩

theorem hexAt:∀ (n:Nat) (h:n < (ByteArray.mk #[48,49,50,51,52,53,54,55,56,57,97,98,99,100,101,102]).size),(ByteArray.mk #[48,49,50,51,52,53,54,55,56,57,97,98,99,100,101,102])[n]=hexd n:=by
  intro n h
  have h16:n < 16:=h
  match n,h,h16 with
  | 0,_,_=>rfl
  | 1,_,_=>rfl
  | 2,_,_=>rfl
  | 3,_,_=>rfl
  | 4,_,_=>rfl
  | 5,_,_=>rfl
  | 6,_,_=>rfl
  | 7,_,_=>rfl
  | 8,_,_=>rfl
  | 9,_,_=>rfl
  | 10,_,_=>rfl
  | 11,_,_=>rfl
  | 12,_,_=>rfl
  | 13,_,_=>rfl
  | 14,_,_=>rfl
  | 15,_,_=>rfl
  | n + 16,_,h=>exact absurd h (by omega)

set_option maxHeartbeats 1000000 in
theorem appendByte_hex (B:Nat) (v:Value) (l:List UInt8) (c:UInt8) (w:World) (hc:needs c=false) (hp:prints c=false) (hown:Row B w v l) (hB:B≤w.heap.size) (hl:l.length≤10000000000000) :
    Calls Tryd.prog 70 #[v,.int .u8 (c.toNat:Int)] w fun e w'=>∃ v',e=.returned v'∧Row B w' v' (l ++ esc c)∧Below B w w':=by
  have hn:=needs_any c
  rw [hc] at hn
  have hq:=prints_any c
  rw [hp] at hq
  have he:esc c=[92,120,hexd (c.toNat / 16),hexd (c.toNat % 16)]:=by unfold esc;rw [if_neg (by simp [hc]),if_neg (by simp [hp])]
  rw [he]
  clear hc he hp
  have hlt:=c.toNat_lt
  have hand:Hid (bits .and .u8 (c.toNat:Int) 15=(c.toNat:Int) % 16∧0≤(c.toNat:Int) / 16∧(c.toNat:Int) / 16 < 16∧0≤(c.toNat:Int) % 16∧(c.toNat:Int) % 16 < 16):=⟨u8_and15 _ (by omega) (by omega),by omega,by omega,by omega,by omega⟩
  clear hlt
  obtain ⟨i0,hi,hz0,hz1,hz2⟩:=info_parts Tryd.info5
  unfold Row at hown
  go_enter Tryd.func70,Tryd.ntmps70
  go_wp2_with (first
    | (go_at_call 72;refine (hn _).mono ?_;rintro e w' ⟨rfl,rfl⟩)
    | (go_at_call 73;refine (hq _).mono ?_;rintro e w' ⟨rfl,rfl⟩))
  obtain ⟨b0,b1,b2,b3,b4⟩:=hand.out
  clear hand
  go_region_held3 (fun _=>True) (go_keep)
    ((refine step_append_lies _ (by rfl) _ _ _ (by rfl) B 5 i0 (.int .u8 0) 1 1 Tryd.underlying53 hi hz0 hz1 hz2 (by rfl) (by decide) v l.length (l.map bv) (by rfl) (by exact (hown.alloc _)) _ 4 4 _ (by rfl) (by rfl) (World.news_of_block (heap_alloc_new _ _)) (by simp [Value.oneCell']) (by decide) (by unfold maxLen;omega) (by omega) (by simp;omega) _ rfl ?_;intro g cap w1 hown1 hgrow hat hlt))
  all_goals
    rw [hexAt,hexAt,show ((c.toNat:Int) / 16).toNat=c.toNat / 16 from by omega,show ((c.toNat:Int) % 16).toNat=c.toNat % 16 from by omega] at hown1
    have R:Hid (Row B w1 (.slice (some ⟨g,0,none⟩) (l.length + 4) cap) (l ++ [92,120,hexd (c.toNat / 16),hexd (c.toNat % 16)])∧Below B w' w1):=⟨row_of (m:=[92,120,hexd (c.toNat / 16),hexd (c.toNat % 16)]) rfl hown1,grown_row hown hB (((Below.refl _ _).alloc hB _).drew) (by simp) hgrow⟩
    clear hown1 hgrow hat hlt
    go_wp2
    go_ret
    exact ⟨_,rfl,R.out.1,R.out.2⟩

theorem appendByte_any (B:Nat) (v:Value) (l:List UInt8) (c:UInt8) (w:World) (hown:Row B w v l) (hB:B≤w.heap.size) (hl:l.length≤10000000000000) :
    Calls Tryd.prog 70 #[v,.int .u8 (c.toNat:Int)] w fun e w'=>∃ v',e=.returned v'∧Row B w' v' (l ++ esc c)∧Below B w w':=by
  cases hn:needs c
  · cases hp:prints c
    · exact appendByte_hex B v l c w hn hp hown hB hl
    · exact appendByte_prints B v l c w hn hp hown hB hl
  · exact appendByte_needs B v l c w hn hown hB hl

/-- What is written of a text, without its marks. -/
def escs (l:List UInt8):List UInt8:=l.flatMap esc
def quoteL (l:List UInt8):List UInt8:=34 :: escs l ++ [34]
theorem escs_le (l:List UInt8):(escs l).length≤4 * l.length:=by
  induction l with
  | nil=>simp [escs]
  | cons c l ih=>have:=esc_le c;simp [escs] at *;omega
theorem escs_snoc (l:List UInt8) (c:UInt8):escs (l ++ [c])=escs l ++ esc c:=by simp [escs]
theorem take_snoc (s:ByteArray) (k:Nat) (h:k < s.size):s.data.toList.take (k + 1)=s.data.toList.take k ++ [s[k]]:=by
  rw [List.take_succ_eq_append_getElem (by simpa using h)];rfl

/-- 'string(v)' of a slice that owns the bytes l. -/
theorem conv_row {B:Nat} {w:World} {v:Value} {l:List UInt8} (h:Row B w v l) (hl:0 < l.length):(convert 53 9 v).run Tryd.prog w=.ok (.string ⟨l.toArray⟩) w:=by
  obtain ⟨g,cap,rfl⟩:∃ g cap,v=.slice (some ⟨g,0,none⟩) l.length cap:=by
    rcases h.2 with ⟨_,h0⟩ | ⟨g,cap,cur,rfl,_⟩
    · omega
    · exact ⟨g,cap,rfl⟩
  refine run_convert_bytes_back w 53 9 5 _ cap l Tryd.underlying53 Tryd.underlying5 Tryd.underlying9 fun j hj=>?_
  have:=h.cells (g:=g) rfl j (bv l[j]) (by simp [hj])
  exact this

theorem ret_str {a b:List UInt8} (h:a=b):Ending.returned (.string ⟨a.toArray⟩)=.returned (.string ⟨b.toArray⟩):=by rw [h]
theorem news1 {w:World} {c:UInt8} {t:TypeId}:∀ (j:Nat) (u:Value),[bv c][j]? = some u→(w.alloc (.cells #[.int .u8 (c.toNat:Int)] t)).cell? ((⟨w.heap.size,0,none⟩:Addr).add j)=some u :=
  World.news_of_block (cs:=#[.int .u8 (c.toNat:Int)]) (heap_alloc_new _ _)
theorem quote_first {w w1 w2:World} {v:Value} {o:Obj} (hg1:w.grownBy w1 none) (hown:w2.ownsRow w.heap.size 5 1 v 1 [bv 34]) {s:Nat} (hg2:(w1.alloc o).grownBy w2 (Value.slice (some ⟨w.heap.size,0,none⟩) 0 s).ownBlock) :
    Row w.heap.size w2 v (34 :: escs [])∧Below w.heap.size w w2:=by
  refine ⟨hown, ?_⟩
  have h1:Below w.heap.size w w1:=(Below.refl _ _).grown hg1 (Nat.le_refl _) (fun k hk=>by cases hk)
  have:=h1.size
  exact (h1.alloc this _).grown hg2 (by simp;omega) (fun k hk=>by simp [Value.ownBlock] at hk;omega)

set_option maxHeartbeats 1000000 in
theorem quote_any (s:ByteArray) (w:World) (hs:s.size≤1000000000000) :
    Calls Tryd.prog 68 #[.string s] w fun e w'=>e=.returned (.string ⟨(quoteL s.data.toList).toArray⟩)∧Below w.heap.size w w':=by
  obtain ⟨i0,hi,hz0,hz1,hz2⟩:=info_parts Tryd.info5
  go_enter Tryd.func68,Tryd.ntmps68
  go_wp2_with (first
    | (at_make;refine wpList_make_own _ rfl _ _ 53 rfl w.heap.size 5 i0 (.int .u8 0) 1 Tryd.underlying53 hi hz0 hz1 .i64 .i64 _ (s.size + 2) rfl rfl (by go_num) (by rw [hz2];omega) (by unfold maxLen;omega) (Nat.le_refl _) ?_;intro w1 hown1 hgrow1)
    | (at_builtin;refine wpList_append_own _ rfl _ _ 53 rfl w.heap.size 5 i0 (.int .u8 0) 1 1 Tryd.underlying53 hi hz0 hz1 hz2 rfl (by decide) _ _ _ rfl (hown1.alloc _) ⟨_,0,none⟩ 1 1 [bv 34] rfl rfl news1 (bv_one [34]) (by unfold maxLen;omega) (by omega) (by have:=hgrow1.size;simp;omega) ?_;intro v2 w2 hown2 hgrow2 hn2;have R:=quote_first hgrow1 hown2 hgrow2;clear hown1 hgrow1 hown2 hgrow2 hn2))
  go_loopw [3,14] (fun v i wr=>∃ k:Nat,k≤s.size∧i=.int .i64 k∧Row w.heap.size wr v (34 :: escs (s.data.toList.take k))∧Below w.heap.size w wr) (fun _ i _=>s.size - (intOf i).toNat)
  case atStart=>exact ⟨0,Nat.zero_le _,rfl,R.1,R.2⟩
  case round =>
    clear R
    obtain ⟨k,hk,rfl,hrow,hb⟩:=hrel
    have hle:=escs_le (s.data.toList.take k)
    have hl:(s.data.toList.take k).length≤k:=List.length_take_le _ _
    by_cases hlt:k < s.size
    · have hsn:=hide (escs_snoc (s.data.toList.take k) s[k])
      have hts:=hide (take_snoc s k hlt)
      go_wp2_with (go_at_call 70;refine (appendByte_any w.heap.size _ _ _ _ hrow hb.size (by simp;omega)).mono ?_;rintro e w1 ⟨v1,rfl,hrow1,hb1⟩)
      go_roundw
      case rel=>exact ⟨k + 1,by omega,by go_num,by rw [uh hts,uh hsn];exact hrow1,hb.trans hb1⟩
      case measure=>simp [intOf];omega
    · have hend:=hide (List.take_of_length_le (l:=s.data.toList) (i:=k) (by simp;omega))
      unfold Row at hrow
      go_wp2_with (at_builtin;refine wpList_append_own _ rfl _ _ 53 rfl w.heap.size 5 i0 (.int .u8 0) 1 1 Tryd.underlying53 hi hz0 hz1 hz2 rfl (by decide) _ _ _ rfl (hrow.alloc _) ⟨_,0,none⟩ 1 1 [bv 34] rfl rfl news1 (bv_one [34]) (by unfold maxLen;simp;omega) (by simp;omega) (by have:=hb.size;simp;omega) ?_;intro v2 w2 hown2 hgrow2 hn2;have hcv:=conv_row (row_of (m:=[34]) rfl hown2) (by simp);have hB:=hide (grown_row hrow hb.size ((Below.refl _ _).alloc hb.size _) (by simp) hgrow2);clear hown2 hgrow2 hn2 hrow)
      go_ret
      exact ⟨ret_str (by rw [uh hend];rfl),hb.trans (uh hB)⟩
end Go.Proofs.YtikhopiegaoacaaDoor

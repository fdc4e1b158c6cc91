/- What the reference's word and sign return, for every text and place. -/
import Derived.Test.YtencibjmiphinaaGreatDoorELxLexRun
import Derived.Test.YtencibjmiphinaaGreatDoorELxOwn
namespace Go.Proofs.YtencibjmiphinaaGreatDoor.Lx
open Go.RowKit
end Go.Proofs.YtencibjmiphinaaGreatDoor.Lx
namespace Go.Proofs.YtencibjmiphinaaGreatDoor.Lx
open Go.RowKit
/-- The program's Parse at a value's text. -/
theorem parse_some (x:ByteArray) (k n:Int) (t:ByteArray) (h:IsVal x.data.toList (k,n,t)) (w:World) (hG:G w) :
  Calls Tryz.prog 116 #[.string x] w fun e w'=>e=.returned (.tuple #[.agg #[.int .i64 k,.int .i64 n,.string t],.int .i64 0])/\Below w.heap.size w w':=by
 have e:textB k n t=x:=WideShapes.bytes_inj h.2
 rw [<- e]
 exact parse_text k n t h.1 w hG
theorem parse_no (x:ByteArray) (h:pv x.data.toList=none) (w:World) (hG:G w) (hmax:x.size<=1048576) :
  Calls Tryz.prog 116 #[.string x] w fun e w'=>e=.returned (.tuple #[.agg #[.int .i64 0,.int .i64 0,.string ⟨#[]⟩],.int .i64 10])/\Below w.heap.size w w':=by
 refine parse_none x ?_ ?_ w hG hmax
 ·rintro ⟨n,h1,h2,e⟩
  exact pv_none h _ (by rw [e];exact isVal_num h1 h2)
 ·intro t ht e
  refine pv_none h (2,0,⟨t.toArray⟩) ?_
  rw [e]
  have:=isVal_word (t:=⟨t.toArray⟩) (by simpa [ByteArray.size] using ht)
  simpa using this
theorem ext_take (s:ByteArray) (i n:Nat):s.extract i (i + n)=⟨((s.data.toList.drop i).take n).toArray⟩:=by
 apply WideShapes.bytes_inj
 rw [ByteArray.data_extract,Array.toList_extract,List.extract_eq_take_drop]
 simp
theorem ext_list (s:ByteArray) (i n:Nat):(s.extract i (i + n)).data.toList=(s.data.toList.drop i).take n:=by
 rw [ext_take]
theorem below_st5 {w w1:World} {o:Obj} (hb:Below (w.alloc o).heap.size (w.alloc o) w1) (x y z u v:Value):Below w.heap.size w (((((w1.setCell ⟨w.heap.size,0,none⟩ x).setCell ⟨w.heap.size,1,none⟩ y).setCell ⟨w.heap.size,2,none⟩ z).setCell ⟨w.heap.size,3,none⟩ u).setCell ⟨w.heap.size,4,none⟩ v) :=
 (((((below_sub ((Below.refl _ _).alloc (Nat.le_refl _) _) hb).setCell (Nat.le_refl _) _).setCell (Nat.le_refl _) _).setCell (Nat.le_refl _) _).setCell (Nat.le_refl _) _).setCell (Nat.le_refl _) _
theorem box5 {w w1:World} (hb:Below (w.alloc (.cells #[.int .i64 0,.int .i64 0,.int .i64 0,.int .i64 0,.string ⟨#[]⟩] 56)).heap.size (w.alloc (.cells #[.int .i64 0,.int .i64 0,.int .i64 0,.int .i64 0,.string ⟨#[]⟩] 56)) w1) :
  w.heap.size < w1.heap.size/\(w1.cell? ⟨w.heap.size,0,none⟩=some (.int .i64 0)/\w1.cell? ⟨w.heap.size,1,none⟩=some (.int .i64 0)/\w1.cell? ⟨w.heap.size,2,none⟩=some (.int .i64 0)/\w1.cell? ⟨w.heap.size,3,none⟩=some (.int .i64 0)/\w1.cell? ⟨w.heap.size,4,none⟩=some (.string ⟨#[]⟩))/\(w1.frozen? ⟨w.heap.size,0,none⟩=false/\w1.frozen? ⟨w.heap.size,1,none⟩=false/\w1.frozen? ⟨w.heap.size,2,none⟩=false/\w1.frozen? ⟨w.heap.size,3,none⟩=false/\w1.frozen? ⟨w.heap.size,4,none⟩=false):=by
 have hs:=hb.size
 obtain ⟨hc,hf⟩:=bcell hb
 have hlt:w.heap.size < (w.alloc (.cells #[.int .i64 0,.int .i64 0,.int .i64 0,.int .i64 0,.string ⟨#[]⟩] 56)).heap.size:=by simp
 refine ⟨by simp at hs;omega,⟨?_, ?_, ?_, ?_, ?_⟩,⟨?_, ?_, ?_, ?_, ?_⟩⟩
 iterate 5 (rw [hc _ _ hlt];go_simp)
 iterate 5 (rw [hf _ _ hlt];go_simp)
set_option maxHeartbeats 1000000 in
theorem nameTok_yes (s:ByteArray) (i j:Nat) (w:World) (hij:i<=j) (hj:j<=s.size) (h:nameOk (s.extract i j)=true) :
  Calls Tryz.prog 83 #[.string s,.int .i64 i,.int .i64 j] w fun e w'=>e=.returned (.tuple #[.agg #[.int .i64 1,.int .i64 i,.int .i64 j,.int .i64 0,.string (s.extract i j)],.bool true])/\Below w.heap.size w w':=by
 have hn:=fun w=>name_any (s.extract i j) w
 rw [h] at hn
 clear h
 have a0:(0:Int)<=(i:Int):=by omega
 have a1:(i:Int)<=(j:Int):=by omega
 have a2:(j:Int)<=(s.size:Int):=by omega
 go_enter Tryz.func83,Tryz.ntmps83
 go_wp2_with (go_at_call 60;refine (hn _).mono ?_;rintro e w' ⟨rfl,rfl⟩)
 refine bodyPost_ret (v:=.tuple #[.agg #[.int .i64 1,.int .i64 i,.int .i64 j,.int .i64 0,.string (s.extract i j)],.bool true]) (by simp [results,Tryz.results83,go_sem]) rfl ⟨rfl, ?_⟩
 exact (Below.refl _ _).alloc (Nat.le_refl _) _
set_option maxHeartbeats 1000000 in
theorem nameTok_no (s:ByteArray) (i j:Nat) (w:World) (hij:i<=j) (hj:j<=s.size) (h:nameOk (s.extract i j)=false) :
  Calls Tryz.prog 83 #[.string s,.int .i64 i,.int .i64 j] w fun e w'=>e=.returned (.tuple #[.agg #[.int .i64 0,.int .i64 0,.int .i64 0,.int .i64 0,.string ⟨#[]⟩],.bool false])/\Below w.heap.size w w':=by
 have hn:=fun w=>name_any (s.extract i j) w
 rw [h] at hn
 clear h
 have a0:(0:Int)<=(i:Int):=by omega
 have a1:(i:Int)<=(j:Int):=by omega
 have a2:(j:Int)<=(s.size:Int):=by omega
 go_enter Tryz.func83,Tryz.ntmps83
 go_wp2_with (go_at_call 60;refine (hn _).mono ?_;rintro e w' ⟨rfl,rfl⟩)
 refine bodyPost_ret (v:=.tuple #[.agg #[.int .i64 0,.int .i64 0,.int .i64 0,.int .i64 0,.string ⟨#[]⟩],.bool false]) (by simp [results,Tryz.results83,go_sem]) rfl ⟨rfl, ?_⟩
 exact (Below.refl _ _).alloc (Nat.le_refl _) _
set_option maxHeartbeats 1000000 in
theorem valTok_yes (s:ByteArray) (i j:Nat) (k n:Int) (t:ByteArray) (w:World) (hG:G w) (hij:i<=j) (hj:j<=s.size) (h:IsVal (s.extract i j).data.toList (k,n,t)) (K:Int) (hK:K=if k=2 then 3 else 2) :
  Calls Tryz.prog 86 #[.string s,.int .i64 i,.int .i64 j] w fun e w'=>e=.returned (.tuple #[.agg #[.int .i64 K,.int .i64 i,.int .i64 j,.int .i64 n,.string t],.bool true])/\Below w.heap.size w w':=by
 have hn:=fun w hG=>parse_some (s.extract i j) k n t h w hG
 clear h
 have a0:(0:Int)<=(i:Int):=by omega
 have a1:(i:Int)<=(j:Int):=by omega
 have a2:(j:Int)<=(s.size:Int):=by omega
 by_cases hk:k=2
 ·rw [if_pos hk] at hK
  subst hK hk
  go_enter Tryz.func86,Tryz.ntmps86
  go_wp2_with (go_at_call 116;refine (hn _ (by exact G_alloc hG _)).mono ?_;rintro e w1 ⟨rfl,hb⟩;obtain ⟨hz,⟨c0,c1,c2,c3,c4⟩,⟨f0,f1,f2,f3,f4⟩⟩:=box5 hb;have Hb:=hide hb;clear hb)
  refine bodyPost_ret (v:=.tuple #[.agg #[.int .i64 3,.int .i64 i,.int .i64 j,.int .i64 n,.string t],.bool true]) (by simp [results,Tryz.results86,go_sem,c0,c1,c2,c3,c4,hz]) rfl ⟨rfl, ?_⟩
  exact (below_st5 (uh Hb) _ _ _ _ _).alloc (below_st5 (uh Hb) _ _ _ _ _).size _
 ·rw [if_neg hk] at hK
  subst hK
  have hk':(k == 2)=false:=by simpa using hk
  go_enter Tryz.func86,Tryz.ntmps86
  go_wp2_with (go_at_call 116;refine (hn _ (by exact G_alloc hG _)).mono ?_;rintro e w1 ⟨rfl,hb⟩;obtain ⟨hz,⟨c0,c1,c2,c3,c4⟩,⟨f0,f1,f2,f3,f4⟩⟩:=box5 hb;have Hb:=hide hb;clear hb)
  refine bodyPost_ret (v:=.tuple #[.agg #[.int .i64 2,.int .i64 i,.int .i64 j,.int .i64 n,.string t],.bool true]) (by simp [results,Tryz.results86,go_sem,c0,c1,c2,c3,c4,hz]) rfl ⟨rfl, ?_⟩
  exact (below_st5 (uh Hb) _ _ _ _ _).alloc (below_st5 (uh Hb) _ _ _ _ _).size _
set_option maxHeartbeats 1000000 in
theorem valTok_no (s:ByteArray) (i j:Nat) (w:World) (hG:G w) (hij:i<=j) (hj:j<=s.size) (hs:s.size<=1000000) (h:pv (s.extract i j).data.toList=none) :
  Calls Tryz.prog 86 #[.string s,.int .i64 i,.int .i64 j] w fun e w'=>e=.returned (.tuple #[.agg #[.int .i64 0,.int .i64 0,.int .i64 0,.int .i64 0,.string ⟨#[]⟩],.bool false])/\Below w.heap.size w w':=by
 have hn:=fun w hG=>parse_no (s.extract i j) h w hG (by rw [ByteArray.size_extract];omega)
 clear h
 have a0:(0:Int)<=(i:Int):=by omega
 have a1:(i:Int)<=(j:Int):=by omega
 have a2:(j:Int)<=(s.size:Int):=by omega
 go_enter Tryz.func86,Tryz.ntmps86
 go_wp2_with (go_at_call 116;refine (hn _ (by exact G_alloc hG _)).mono ?_;rintro e w1 ⟨rfl,hb⟩;obtain ⟨hz,⟨c0,c1,c2,c3,c4⟩,⟨f0,f1,f2,f3,f4⟩⟩:=box5 hb;have Hb:=hide hb;clear hb)
 refine bodyPost_ret (v:=.tuple #[.agg #[.int .i64 0,.int .i64 0,.int .i64 0,.int .i64 0,.string ⟨#[]⟩],.bool false]) (by simp [results,Tryz.results86,go_sem,c0,c1,c2,c3,c4,hz]) rfl ⟨rfl, ?_⟩
 exact (below_st5 (uh Hb) _ _ _ _ _).alloc (below_st5 (uh Hb) _ _ _ _ _).size _
/-- What a token function answers of the token at the place i. -/
def tokV (i:Nat):Option (Int × Nat × Int × ByteArray)->Value
 | some (k,n,v,x)=>.tuple #[.agg #[.int .i64 k,.int .i64 i,.int .i64 ((i + n:Nat):Int),.int .i64 v,.string x],.bool true]
 | none=>.tuple #[.agg #[.int .i64 0,.int .i64 0,.int .i64 0,.int .i64 0,.string ⟨#[]⟩],.bool false]
theorem tokL_name {c:UInt8} {r:List UInt8} (h:isLet (c.toNat:Int)=true) (hn:nameOk ⟨((c :: r).take (rl okB (c :: r))).toArray⟩=true):tokL (c :: r)=some (1,rl okB (c :: r),0,⟨((c :: r).take (rl okB (c :: r))).toArray⟩):=by
 show tokC c r=_;unfold tokC;rw [if_pos h,if_pos hn]
theorem tokL_noname {c:UInt8} {r:List UInt8} (h:isLet (c.toNat:Int)=true) (hn:nameOk ⟨((c :: r).take (rl okB (c :: r))).toArray⟩=false):tokL (c :: r)=none:=by
 show tokC c r=_;unfold tokC;rw [if_pos h,if_neg (by simp [hn])]
theorem tokL_num {c:UInt8} {r:List UInt8} {q:Int × Int × ByteArray} (h:isLet (c.toNat:Int)=false) (h2:(c == 45 || isDig (c.toNat:Int))=true) (hq:pv ((c :: r).take (rl isDig r + 1))=some q):tokL (c :: r)=some (if q.1=2 then 3 else 2,rl isDig r + 1,q.2.1,q.2.2):=by
 show tokC c r=_;unfold tokC;rw [if_neg (by simp [h]),if_pos h2,hq];rfl
theorem tokL_nonum {c:UInt8} {r:List UInt8} (h:isLet (c.toNat:Int)=false) (h2:(c == 45 || isDig (c.toNat:Int))=true) (hq:pv ((c :: r).take (rl isDig r + 1))=none):tokL (c :: r)=none:=by
 show tokC c r=_;unfold tokC;rw [if_neg (by simp [h]),if_pos h2,hq];rfl
theorem tokL_word {c:UInt8} {r:List UInt8} {n:Nat} {q:Int × Int × ByteArray} (h:isLet (c.toNat:Int)=false) (h2:(c == 45 || isDig (c.toNat:Int))=false) (h3:(c == 34)=true) (hw:wl false r=some n) (hq:pv ((c :: r).take (n + 1))=some q):tokL (c :: r)=some (if q.1=2 then 3 else 2,n + 1,q.2.1,q.2.2):=by
 show tokC c r=_;unfold tokC;rw [if_neg (by simp [h]),if_neg (by simp [h2]),if_pos h3,hw];simp only [hq];rfl
theorem tokL_noword {c:UInt8} {r:List UInt8} {n:Nat} (h:isLet (c.toNat:Int)=false) (h2:(c == 45 || isDig (c.toNat:Int))=false) (h3:(c == 34)=true) (hw:wl false r=some n) (hq:pv ((c :: r).take (n + 1))=none):tokL (c :: r)=none:=by
 show tokC c r=_;unfold tokC;rw [if_neg (by simp [h]),if_neg (by simp [h2]),if_pos h3,hw];simp only [hq];rfl
theorem tokL_noend {c:UInt8} {r:List UInt8} (h:isLet (c.toNat:Int)=false) (h2:(c == 45 || isDig (c.toNat:Int))=false) (h3:(c == 34)=true) (hw:wl false r=none):tokL (c :: r)=none:=by
 show tokC c r=_;unfold tokC;rw [if_neg (by simp [h]),if_neg (by simp [h2]),if_pos h3,hw]
theorem tokL_sign {c:UInt8} {r:List UInt8} (h:isLet (c.toNat:Int)=false) (h2:(c == 45 || isDig (c.toNat:Int))=false) (h3:(c == 34)=false) (h4:isSign c=true):tokL (c :: r)=some (4,1,0,⟨#[c]⟩):=by
 show tokC c r=_;unfold tokC;rw [if_neg (by simp [h]),if_neg (by simp [h2]),if_neg (by simp [h3]),if_pos h4]
theorem tokL_nosign {c:UInt8} {r:List UInt8} (h:isLet (c.toNat:Int)=false) (h2:(c == 45 || isDig (c.toNat:Int))=false) (h3:(c == 34)=false) (h4:isSign c=false):tokL (c :: r)=none:=by
 show tokC c r=_;unfold tokC;rw [if_neg (by simp [h]),if_neg (by simp [h2]),if_neg (by simp [h3]),if_neg (by simp [h4])]
/-- A word without an end is no value's text. -/
theorem pv_noend {r:List UInt8} (hw:wl false r=none):pv (34 :: r)=none:=by
 cases h:pv (34 :: r) with
 | none=>rfl
 | some q =>
  rcases isVal_cases (pv_of h) with ⟨n,_,_,_,e⟩ | ⟨t,_,_,e⟩
  ·have:=itoa_noquote n
   rw [<- e] at this
   simp [Lib.hasPrefix] at this
  ·obtain ⟨r',e',hr'⟩:=wl_quote t.data.toList
   rw [e'] at e
   injection e with _ e2
   subst e2
   rw [hw] at hr';cases hr'
theorem dash_eq (c:UInt8):(c == 45)=((c.toNat:Int) == 45):=by
 rw [Bool.eq_iff_iff];simp only [beq_iff_eq]
 exact ⟨fun h=>by rw [h];rfl,fun h=>UInt8.toNat_inj.1 (by have e:(45:UInt8).toNat=45:=rfl;omega)⟩
theorem mark_eq (c:UInt8):(c == 34)=((c.toNat:Int) == 34):=by
 rw [Bool.eq_iff_iff];simp only [beq_iff_eq]
 exact ⟨fun h=>by rw [h];rfl,fun h=>UInt8.toNat_inj.1 (by have e:(34:UInt8).toNat=34:=rfl;omega)⟩
theorem index_pos (c:UInt8):∀ l:List UInt8,l.contains c=true->0<=Lib.indexByte l c
 | [],h=>by simp at h
 | b :: l,h=>by
  unfold Lib.indexByte
  split
  ·exact Int.le_refl _
  ·rename_i h1
   have h2:l.contains c=true:=by
    rw [List.contains_cons,Bool.or_eq_true] at h
    rcases h with h | h
    ·exact absurd (by simpa using (by simpa using h:c=b).symm) h1
    ·exact h
   have:=index_pos c l h2
   split
   ·rename_i h3;have:Lib.indexByte l c=-1:=by simpa using h3
    omega
   ·omega
theorem index_neg (c:UInt8):∀ l:List UInt8,l.contains c=false->Lib.indexByte l c=-1
 | [],_=>rfl
 | b :: l,h=>by
  rw [List.contains_cons,Bool.or_eq_false_iff] at h
  unfold Lib.indexByte
  rw [if_neg (by have:=h.1;simp at this;simpa using fun e:b=c=>this e.symm),index_neg c l h.2];rfl
theorem sign_pos (c:UInt8) (X:Int) (hX:X=Lib.indexByte signs c) (h:isSign c=true):0<=X:=by rw [hX];exact index_pos c _ h
theorem sign_neg (c:UInt8) (X:Int) (hX:X=Lib.indexByte signs c) (h:isSign c=false):X < 0:=by rw [hX,index_neg c _ h];decide
end Go.Proofs.YtencibjmiphinaaGreatDoor.Lx

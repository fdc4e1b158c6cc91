/- Plain: what is read is small and made of ints; the lines ahead of the one that is wrong. -/
import Derived.Test.YtdgoibnndfibnaaGreatDoorRZap
import Derived.Test.YtdgoibnndfibnaaGreatDoorRZab
namespace Go.Proofs.YtdgoibnndfibnaaGreatDoor
open Go.RowKit Go.Sort
/-- A script of ints, each of its ops at most K pairs and numbers long. -/
structure ScrK (K:Nat) (s:Scr):Prop where
  cfg:∀ n ∈ s.cfg.l,I64 n
  ops:∀ o ∈ s.ops,SopI o/\o.ev.length<=K/\o.nums.length<=K
theorem addS_K {K:Nat} {s s':Scr} {n:Nat} {line:Bs} (hl:line.length<=K) (hs:ScrK K s) (h:addS s n line=some s'):ScrK K s':=by
 unfold addS at h
 split at h
 ·split at h
  ·cases h
   exact ⟨rdCfg_I _,hs.ops⟩
  ·cases h
 ·split at h
  ·split at h
   ·cases h
    exact ⟨hs.cfg,hs.ops⟩
   ·cases h
  ·split at h
   ·cases h
    refine ⟨hs.cfg,fun o ho=>?_⟩
    rcases List.mem_append.1 ho with h1 | h1
    ·exact hs.ops o h1
    ·rw [List.mem_singleton] at h1
     subst h1
     have h2:=rdOp_len (nextW line).1 (nextW line).2
     have h3:=nextW_le line
     exact ⟨rdOp_I _ _,by omega,by omega⟩
   ·cases h
theorem read_K {K:Nat}:∀ (k n:Nat) (s s2:Scr) (t:Bs),t.length < k->t.length<=K->ScrK K s->readFrom n s t=(0,some s2)->ScrK K s2
 | 0,_,_,_,_,h,_,_,_=>by omega
 | k + 1,n,s,s2,t,hk,hK,hs,h=>by
  by_cases he:n ≠ 1/\t=[]
  ·obtain ⟨h1,rfl⟩:=he
   rw [readFrom_end h1] at h
   cases h
   exact hs
  ·cases hc:cut10 t with
   | none=>rw [readFrom_none he hc] at h;cases h
   | some x =>
    cases ha:addS s n x.1 with
    | none=>rw [readFrom_bad hc ha] at h;cases h
    | some s' =>
     rw [readFrom_step hc ha] at h
     obtain ⟨e,_⟩:=cut10_len hc
     have hl:t.length=x.1.length + (x.2.length + 1):=by rw [e];simp
     exact read_K k (n + 1) s' s2 x.2 (by omega) (by omega) (addS_K (by omega) hs ha) h
theorem readS_K {t:Bs} {s:Scr} (h:readS t=(0,some s)):ScrK t.length s :=
 read_K (t.length + 1) 1 scr0 s t (by omega) (Nat.le_refl _) ⟨by
  intro n hn
  simp only [scr0,Cfg.l,List.mem_cons,List.not_mem_nil,or_false] at hn
  rcases hn with rfl | rfl | rfl | rfl | rfl | rfl | rfl | rfl <;> exact I64_0,by simp [scr0]⟩ h
theorem ScrK.I {K:Nat} {s:Scr} (h:ScrK K s):ScrI s:=⟨h.cfg,fun o ho=>(h.ops o ho).1⟩
end Go.Proofs.YtdgoibnndfibnaaGreatDoor
namespace Go.Proofs.YtdgoibnndfibnaaGreatDoor
open Go.RowKit Go.Sort
/-- The words of a line, the document's way: acc is the word so far, q: within quotation marks. -/
def cutG:Bool->Bs->Bs->List Bs
  | _,acc,[]=>[acc]
  | q,acc,[c]=>if q=true/\c=92 then [acc ++ [c]] else if c=34 then [acc ++ [c]] else if c=32/\q=false then [acc,[]] else [acc ++ [c]]
  | q,acc,c :: d :: r=>if q=true/\c=92 then cutG q (acc ++ [c,d]) r else if c=34 then cutG (!q) (acc ++ [c]) (d :: r) else if c=32/\q=false then acc :: cutG q [] (d :: r) else cutG q (acc ++ [c]) (d :: r)
theorem cutG_end (q:Bool) (acc:Bs):cutG q acc []=[acc]:=by cases q <;> rfl
theorem cutG_esc (acc:Bs) (d:UInt8) (r:Bs):cutG true acc (92 :: d :: r)=cutG true (acc ++ [92,d]) r:=by rw [cutG,if_pos ⟨rfl,rfl⟩]
theorem cutG_esc1 (acc:Bs):cutG true acc [92]=[acc ++ [92]]:=by rw [cutG,if_pos ⟨rfl,rfl⟩]
theorem cutG_mark (q:Bool) (acc:Bs) (r:Bs):cutG q acc (34 :: r)=cutG (!q) (acc ++ [34]) r:=by
 cases r with
 | nil=>unfold cutG;rw [if_neg (by rintro ⟨_,h⟩;cases h),if_pos rfl]
 | cons d r=>rw [cutG,if_neg (by rintro ⟨_,h⟩;cases h),if_pos rfl]
theorem cutG_blank (acc:Bs) (r:Bs):cutG false acc (32 :: r)=acc :: cutG false [] r:=by
 cases r with
 | nil=>unfold cutG;rw [if_neg (by simp),if_neg (by decide),if_pos ⟨rfl,rfl⟩]
 | cons d r=>rw [cutG,if_neg (by simp),if_neg (by decide),if_pos ⟨rfl,rfl⟩]
theorem cutG_one {q:Bool} {c:UInt8} (h1:c=92->q=false) (h2:c ≠ 34) (h3:c ≠ 32 ∨ q=true) (acc:Bs) (r:Bs):cutG q acc (c :: r)=cutG q (acc ++ [c]) r:=by
 have e1:¬ (q=true/\c=92):=by rintro ⟨h4,h5⟩;rw [h1 h5] at h4;cases h4
 have e3:¬ (c=32/\q=false):=by rintro ⟨h4,h5⟩;rcases h3 with h | h;exact h h4;rw [h] at h5;cases h5
 cases r with
 | nil=>rw [cutG_end];unfold cutG;rw [if_neg e1,if_neg h2,if_neg e3]
 | cons d r=>rw [cutG,if_neg e1,if_neg h2,if_neg e3]
def PassC (q:Bool) (w:Bs) (q':Bool):Prop:=∀ acc r,cutG q acc (w ++ r)=cutG q' (acc ++ w) r
theorem PassC.nil (q:Bool):PassC q [] q:=fun acc r=>by simp
theorem PassC.app {q q1 q2:Bool} {a b:Bs} (h:PassC q a q1) (h2:PassC q1 b q2):PassC q (a ++ b) q2:=fun acc r=>by
 rw [List.append_assoc,h,h2,List.append_assoc]
theorem PassC.one {q:Bool} {c:UInt8} (h1:c=92->q=false) (h2:c ≠ 34) (h3:c ≠ 32 ∨ q=true):PassC q [c] q:=fun acc r=>cutG_one h1 h2 h3 acc r
theorem PassC.mark (q:Bool):PassC q [34] (!q):=fun acc r=>cutG_mark q acc r
theorem PassC.pair (d:UInt8):PassC true [92,d] true:=fun acc r=>cutG_esc acc d r
theorem Bare.passC {l:Bs} (h:Bare l) (q:Bool):PassC q l q:=by
 induction l with
 | nil=>exact PassC.nil q
 | cons c l ih =>
  obtain ⟨h1,h2,h3⟩:=h c (by simp)
  exact (PassC.one (fun e=>absurd e h1) h2 (Or.inl h3)).app (ih fun d hd=>h d (by simp [hd]))
theorem esc_passC (c:UInt8):PassC true (esc c) true:=by
 unfold esc
 split
 ·exact PassC.pair c
 ·next h =>
  split
  ·have h1:c ≠ 92:=fun e=>h (by subst e;decide)
   have h2:c ≠ 34:=fun e=>h (by subst e;decide)
   exact PassC.one (fun e=>absurd e h1) h2 (Or.inr rfl)
  ·have hl:=c.toNat_lt
   obtain ⟨a1,a2,a3⟩:=hexd_bare (c.toNat / 16) (by omega)
   obtain ⟨b1,b2,b3⟩:=hexd_bare (c.toNat % 16) (by omega)
   exact (PassC.pair 120).app ((PassC.one (fun e=>absurd e a1) a2 (Or.inl a3)).app (PassC.one (fun e=>absurd e b1) b2 (Or.inl b3)))
theorem escs_passC (l:Bs):PassC true (escs l) true:=by
 induction l with
 | nil=>exact PassC.nil true
 | cons c l ih=>rw [escs_cons];exact (esc_passC c).app ih
theorem quote_passC (l:Bs):PassC false (quoteL l) false:=(PassC.mark false).app ((escs_passC l).app (PassC.mark true))
theorem textB_passC {k n:Int} {s:ByteArray} (h:chkV k n s=0):PassC false (Lb (textB k n s)) false:=by
 rcases textB_ok h with ⟨_,_,_,e⟩ | ⟨_,_,e⟩ <;> rw [e]
 ·exact (itoa_bare n).passC false
 ·exact quote_passC _
theorem pair_passC {p:Pq} (h:pairOk p=true):PassC false (pairW p) false:=by
 unfold pairOk at h
 rw [Bool.and_eq_true] at h
 have hb:Bare (Lb p.1):=fun c hc=>by
  obtain ⟨h1,h2,h3,_⟩:=name_char h.1 c hc
  exact ⟨h1,h2,h3⟩
 exact (hb.passC false).app ((PassC.one (by decide) (by decide) (Or.inl (by decide))).app (textB_passC (of_decide_eq_true h.2)))
theorem cutG_words:∀ (ws:List Bs) (w:Bs),PassC false w false->(∀ v ∈ ws,PassC false v false)->∀ acc,cutG false acc (w ++ tailW ws)=(acc ++ w) :: ws
 | [],w,h,_,acc=>by
  have:=h acc []
  rw [List.append_nil] at this
  simp only [tailW,List.flatMap_nil,List.append_nil]
  rw [this,cutG_end]
 | v :: ws,w,h,hs,acc=>by
  rw [tailW_cons,List.cons_append,h acc,cutG_blank,cutG_words ws v (hs v (by simp)) (fun x hx=>hs x (by simp [hx])) []]
  rfl
/-- A line's words. -/
def cutL (l:Bs):List Bs:=cutG false [] l
theorem cutL_words {w:Bs} {ws:List Bs} (h:∀ v ∈ w :: ws,PassC false v false):cutL (wordsW (w :: ws))=w :: ws:=by
 have:=cutG_words ws w (h w (by simp)) (fun v hv=>h v (by simp [hv])) []
 exact this
theorem cutG_ne:∀ (k:Nat) (q:Bool) (acc l:Bs),l.length<=k->cutG q acc l ≠ []:=by
 intro k
 induction k with
 | zero =>
  intro q acc l hl
  obtain rfl:=List.eq_nil_of_length_eq_zero (Nat.le_zero.1 hl)
  rw [cutG_end];simp
 | succ k ihk =>
  intro q acc l hl
  match l with
  | []=>rw [cutG_end];simp
  | [c] =>
   unfold cutG
   split
   ·simp
   ·split
    ·simp
    ·split <;> simp
  | c :: d :: r =>
   simp only [List.length_cons] at hl
   rw [cutG]
   split
   ·exact ihk _ _ _ (by omega)
   ·split
    ·exact ihk _ _ _ (by simp;omega)
    ·split
     ·simp
     ·exact ihk _ _ _ (by simp;omega)
/-- One digit more, read loosely. -/
def stepU (u:Nat) (c:UInt8):Nat:=(u * 10 + (c.toNat + 208) % 256) % 18446744073709551616
def u64I (u:Nat):Int:=if u < 9223372036854775808 then (u:Int) else (u:Int) - 18446744073709551616
/-- A word as a number, the document's way. -/
def numR (w:Bs):Int:=match w with
  | []=>0
  | c :: r=>if c=45 then u64I ((18446744073709551616 - r.foldl stepU 0) % 18446744073709551616) else u64I (r.foldl stepU (stepU 0 c))
theorem stepU_lt (u:Nat) (c:UInt8):stepU u c < 18446744073709551616:=Nat.mod_lt _ (by decide)
theorem foldU_lt:∀ (l:Bs) (u:Nat),u < 18446744073709551616->l.foldl stepU u < 18446744073709551616
 | [],_,h=>h
 | c :: l,u,_=>foldU_lt l _ (stepU_lt u c)
theorem u64I_I {u:Nat} (h:u < 18446744073709551616):I64 (u64I u):=by
 unfold u64I I64
 split <;> omega
theorem numR_I (w:Bs):I64 (numR w):=by
 cases w with
 | nil=>exact I64_0
 | cons c r =>
  show I64 (if c=45 then _ else _)
  split
  ·exact u64I_I (Nat.mod_lt _ (by decide))
  ·exact u64I_I (foldU_lt r _ (stepU_lt 0 c))
theorem dgt_step (u d:Nat) (hd:d < 10):stepU u (UInt8.ofNat (48 + d))=(u * 10 + d) % 18446744073709551616:=by
 unfold stepU
 have:(UInt8.ofNat (48 + d)).toNat=48 + d:=by
  rw [UInt8.toNat_ofNat']
  exact Nat.mod_eq_of_lt (by omega)
 rw [this,show (48 + d + 208) % 256=d by omega]
end Go.Proofs.YtdgoibnndfibnaaGreatDoor
namespace Go.Proofs.YtdgoibnndfibnaaGreatDoor
open Go.RowKit
theorem esc_needs {c:UInt8} (h:needs c=true):esc c=[92,c]:=by unfold esc;rw [if_pos h]
theorem esc_prints {c:UInt8} (h:needs c=false) (hp:prints c=true):esc c=[c]:=by unfold esc;rw [if_neg (by simp [h]),if_pos hp]
theorem esc_hex {c:UInt8} (hp:prints c=false):esc c=[92,120,hexd (c.toNat / 16),hexd (c.toNat % 16)]:=by
 have h:needs c=false:=by
  rw [needs_eq];rw [prints_eq] at hp
  simp at hp ⊢;omega
 unfold esc;rw [if_neg (by simp [h]),if_neg (by simp [hp])]
theorem row_one {B:Nat} {w:World} (hB:B<=w.heap.size):Row B (w.alloc (.cells #[.int .u8 34] 5)) (.slice (some ⟨w.heap.size,0,none⟩) 1 1) (34 :: escs []):=by
 refine ⟨rfl,.inr ⟨w.heap.size,1,#[.int .u8 34],rfl,hB,heap_alloc_new _ _,Nat.le_refl _,by unfold maxLen;omega,rfl,rfl⟩⟩
theorem div_facts (c:UInt8):(c.toNat:Int).tdiv 16=(c.toNat:Int) / 16/\(c.toNat:Int).tmod 16=(c.toNat:Int) % 16/\IntKind.u8.wrap ((c.toNat:Int) / 16)=(c.toNat:Int) / 16/\IntKind.u8.wrap ((c.toNat:Int) % 16)=(c.toNat:Int) % 16/\((c.toNat:Int) / 16) % 256=(c.toNat:Int) / 16/\((c.toNat:Int) % 16) % 256=(c.toNat:Int) % 16:=by
 have:=c.toNat_lt
 have e:(2:Int) ^ IntKind.u8.bits=256:=by decide
 refine ⟨Int.tdiv_eq_ediv_of_nonneg (by omega),Int.tmod_eq_emod_of_nonneg (by omega), ?_, ?_,by omega,by omega⟩
 ·simp [IntKind.wrap,e,show IntKind.u8.signed=false from rfl];omega
 ·simp [IntKind.wrap,e,show IntKind.u8.signed=false from rfl];omega
set_option maxRecDepth 100000 in
set_option maxHeartbeats 1000000 in
theorem refQuote_any (s:ByteArray) (w:World) (hs:s.size<=1000000000000) :
    Calls Tryz.prog 67 #[.string s] w fun e w'=>e=.returned (.string (quoteB s))/\Below w.heap.size w w':=by
  obtain ⟨i0,hi,hz0,hz1,hz2⟩:=info_parts Tryz.info5
  have R:=row_one (w:=w) (Nat.le_refl _)
  go_enter Tryz.func67,Tryz.ntmps67
  go_wp2
  go_loopw [3,4] (fun v i wr=>∃ k:Nat,k<=s.size/\i=.int .i64 k/\Row w.heap.size wr v (34 :: escs (s.data.toList.take k))/\Below w.heap.size w wr) (fun _ i _=>s.size - (intOf i).toNat)
  case atStart=>exact ⟨0,Nat.zero_le _,rfl,R,(Below.refl _ _).alloc (Nat.le_refl _) _⟩
  case round =>
    clear R
    obtain ⟨k,hk,rfl,hrow,hb⟩:=hrel
    have hle:=escs_le (s.data.toList.take k)
    have hl:(s.data.toList.take k).length<=k:=List.length_take_le _ _
    by_cases hlt:k < s.size
    · have hsn:=hide (escs_snoc (s.data.toList.take k) s[k])
      have hts:=hide (take_snoc s k hlt)
      have hlb:(34 :: escs (s.data.toList.take k)).length<=5000000000000:=by simp;omega
      generalize hL:(34 :: escs (s.data.toList.take k))=L at hrow hlb
      have HL:=hide hL
      clear hL hle hl
      unfold Row at hrow
      have hBs:=hb.size
      have hc:=s[k].toNat_lt
      cases hp:prints s[k]
      · have he:=hide (esc_hex hp)
        rw [prints_eq] at hp
        have hd:=hide (And.intro (show 0<=(s[k].toNat:Int) / 16 by omega) (And.intro (show (s[k].toNat:Int) / 16 < 16 by omega) (And.intro (show 0<=(s[k].toNat:Int) % 16 by omega) (show (s[k].toNat:Int) % 16 < 16 by omega))))
        clear hc
        have hcase:(s[k].toNat:Int) < 32 ∨ (¬ (s[k].toNat:Int) < 32/\(126:Int) < s[k].toNat):=by simp at hp;omega
        clear hp
        rcases hcase with h32 | ⟨h32,h126⟩
        all_goals
          go_wp2
          obtain ⟨b1,b2,b3,b4⟩:=uh hd
          clear hd
          obtain ⟨e1,e2,e3,e4,e5,e6⟩:=div_facts s[k]
          go_region_held3 (fun _=>True) (go_keep)
            ((refine step_append_lies _ (by rfl) _ _ _ (by rfl) w.heap.size 5 i0 (.int .u8 0) 1 1 Tryz.underlying67 hi hz0 hz1 hz2 (by rfl) (by decide) u3 L.length (L.map bv) (by rfl) (by exact (hrow.alloc _)) _ 4 4 _ (by rfl) (by rfl) (World.news_of_block (heap_alloc_new _ _)) (by simp [Value.oneCell']) (by decide) (by unfold maxLen;omega) (by omega) (by simp;omega) _ rfl ?_;intro g cap w1 hown1 hgrow hat hlt2))
        all_goals
          rw [hexAt,hexAt,show ((s[k].toNat:Int) / 16).toNat=s[k].toNat / 16 from by omega,show ((s[k].toNat:Int) % 16).toNat=s[k].toNat % 16 from by omega] at hown1
          have R2:=hide (And.intro (row_of (m:=[92,120,hexd (s[k].toNat / 16),hexd (s[k].toNat % 16)]) rfl hown1) (grown_row hrow hBs (((Below.refl _ _).alloc hBs _).drew) (by simp) hgrow))
          clear hown1 hgrow hat hlt2 e1 e2 e3 e4 e5 e6
          go_wp2
          go_roundw
          case rel=>exact ⟨k + 1,by omega,by go_num,by rw [uh hts,uh hsn,<- List.cons_append,uh HL,uh he];exact (uh R2).1,hb.trans (uh R2).2⟩
          case measure=>simp [intOf];omega
      · clear hc
        cases hn:needs s[k]
        · have he:=hide (esc_prints hn hp)
          rw [prints_eq] at hp
          rw [needs_eq] at hn
          simp only [Bool.and_eq_true,decide_eq_true_eq,Bool.or_eq_false_iff] at hp hn
          obtain ⟨p1,p2⟩:=hp
          obtain ⟨n1,n2⟩:=hn
          go_wp2_with (at_builtin;go_must (refine wpList_append_own _ rfl _ _ 67 rfl w.heap.size 5 i0 (.int .u8 0) 1 1 Tryz.underlying67 hi hz0 hz1 hz2 rfl (by decide) _ _ _ rfl (hrow.alloc _) ⟨_,0,none⟩ 1 1 [bv s[k]] rfl rfl news1 (bv_one [s[k]]) (by unfold maxLen;omega) (by omega) (by simp;omega) ?_);intro v2 w2 hown2 hgrow2 hn2;have R2:=hide (And.intro (row_of (m:=[s[k]]) rfl hown2) (grown_row hrow hBs ((Below.refl _ _).alloc hBs _) (by simp) hgrow2));clear hown2 hgrow2 hn2)
          go_roundw
          case rel=>exact ⟨k + 1,by omega,by go_num,by rw [uh hts,uh hsn,<- List.cons_append,uh HL,uh he];exact (uh R2).1,hb.trans (uh R2).2⟩
          case measure=>simp [intOf];omega
        · have he:=hide (esc_needs hn)
          rw [prints_eq] at hp
          rw [needs_eq] at hn
          simp only [Bool.and_eq_true,decide_eq_true_eq] at hp
          obtain ⟨p1,p2⟩:=hp
          have hcase:((s[k].toNat:Int) == 34)=true ∨ (((s[k].toNat:Int) == 34)=false/\((s[k].toNat:Int) == 92)=true):=by
            cases h34:((s[k].toNat:Int) == 34)
            · right;rw [h34] at hn;simpa using hn
            · left;rfl
          clear hn
          rcases hcase with n1 | ⟨n1,n2⟩
          all_goals
            go_wp2_with (first
              | (at_builtin;refine wpList_append_own _ rfl (.tmp 37) (.tmp 38) 67 rfl w.heap.size 5 i0 (.int .u8 0) 1 1 Tryz.underlying67 hi hz0 hz1 hz2 rfl (by decide) _ _ _ rfl (hrow.alloc _) ⟨_,0,none⟩ 1 1 [bv 92] rfl rfl news1 (bv_one [92]) (by unfold maxLen;omega) (by omega) (by simp;omega) ?_;intro v2 w2 hown2 hgrow2 hn2;have R2:=hide (And.intro (row_of (m:=[92]) rfl hown2) (grown_row hrow hBs ((Below.refl _ _).alloc hBs _) (by simp) hgrow2));clear hown2 hgrow2 hn2;have hBs2:w.heap.size<=w2.heap.size:=(by have:=(uh R2).2.size;omega);have hl2:(L ++ [92]).length<=5000000000001:=(by simp;omega);have hrow2:w2.ownsRow w.heap.size 5 1 v2 (L ++ [92]).length ((L ++ [92]).map bv):=(uh R2).1;generalize hM:L ++ [92]=M at hrow2 hl2;have HM:=hide hM;clear hM)
              | (at_builtin;refine wpList_append_own _ rfl (.tmp 40) (.tmp 42) 67 rfl w.heap.size 5 i0 (.int .u8 0) 1 1 Tryz.underlying67 hi hz0 hz1 hz2 rfl (by decide) _ _ _ rfl (hrow2.alloc _) ⟨_,0,none⟩ 1 1 [bv s[k]] rfl rfl news1 (bv_one [s[k]]) (by unfold maxLen;omega) (by omega) (by simp;omega) ?_;intro v3 w3 hown3 hgrow3 hn3;have R3:=hide (And.intro (row_of (m:=[s[k]]) rfl hown3) (grown_row hrow2 hBs2 ((Below.refl _ _).alloc hBs2 _) (by simp) hgrow3));clear hown3 hgrow3 hn3))
            go_roundw
            case rel=>exact ⟨k + 1,by omega,by go_num,by rw [uh hts,uh hsn,<- List.cons_append,uh HL,uh he,show L ++ [92,s[k]]=(L ++ [92]) ++ [s[k]] by simp,uh HM];exact (uh R3).1,(hb.trans (uh R2).2).trans (uh R3).2⟩
            case measure=>simp [intOf];omega
    · have hend:=hide (List.take_of_length_le (l:=s.data.toList) (i:=k) (by simp;omega))
      unfold Row at hrow
      go_wp2_with (at_builtin;refine wpList_append_own _ rfl _ _ 67 rfl w.heap.size 5 i0 (.int .u8 0) 1 1 Tryz.underlying67 hi hz0 hz1 hz2 rfl (by decide) _ _ _ rfl (hrow.alloc _) ⟨_,0,none⟩ 1 1 [bv 34] rfl rfl news1 (bv_one [34]) (by unfold maxLen;simp;omega) (by simp;omega) (by have:=hb.size;simp;omega) ?_;intro v2 w2 hown2 hgrow2 hn2;have hcv:=conv_row (row_of (m:=[34]) rfl hown2) (by simp);have hB:=hide (grown_row hrow hb.size ((Below.refl _ _).alloc hb.size _) (by simp) hgrow2);clear hown2 hgrow2 hn2 hrow)
      go_ret
      exact ⟨ret_str (by rw [uh hend];rfl),hb.trans (uh hB)⟩
end Go.Proofs.YtdgoibnndfibnaaGreatDoor

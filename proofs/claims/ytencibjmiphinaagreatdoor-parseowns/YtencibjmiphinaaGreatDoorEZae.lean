/- The contracts of the Go library for strconv.Itoa and for the method String of strings.Builder, laid at this program. -/
import Derived.Shelf.Strconv.Itoa3
import Derived.Shelf.LaysM
import Derived.Shelf.Strings.BuilderK
import Derived.Test.YtencibjmiphinaaGreatDoorELxShelf
import Derived.Test.YtencibjmiphinaaGreatDoorEZab
import Derived.Lib.SmallJoins
import Derived.Lib.AppendIntMem
import Derived.Test.YtencibjmiphinaaGreatDoorEZac
import Derived.Lib.SliceRun
namespace Go.Proofs
open Go.Shelf
end Go.Proofs
namespace Go.Proofs.YtencibjmiphinaaGreatDoor
open Go.RowKit
/-- What the listed variables of the library hold. -/
def G (w:World):Prop:=Lib.TabIs Tryz.prog w "internal/strconv.uint64pow10" .u64 Lib.pow10Tab
theorem var_stays {w w':World} {n:String} {cs:Array Value} (hb:Below w.heap.size w w') (h:w.var? Tryz.prog n=some cs):w'.var? Tryz.prog n=some cs:=by
 unfold World.var? at h
 cases hg:Tryz.prog.globalNamed n with
 | none=>rw [hg] at h;simp at h
 | some g =>
  refine var?_below hb hg ?_ (by unfold World.var?;exact h)
  rw [hg] at h
  simp only [Option.bind_some] at h
  cases hx:w.heap[g]? with
  | none=>rw [hx] at h;simp at h
  | some o=>exact (Array.getElem?_eq_some_iff.1 hx).1
theorem G_below {w w':World} (h:G w) (hb:Below w.heap.size w w'):G w':=var_stays hb h
theorem G_alloc {w:World} (h:G w) (o:Obj):G (w.alloc o):=G_below h ((Below.refl _ _).alloc (Nat.le_refl _) _)
theorem below_sub {a b c:World} (h:Below a.heap.size a b) (h2:Below b.heap.size b c):Below a.heap.size a c:=h.trans (h2.mono h.size)
def quoteB (s:ByteArray):ByteArray:=⟨(quoteL s.data.toList).toArray⟩
def itoaB (n:Int):ByteArray:=⟨(Lib.itoa n).toArray⟩
theorem quote_at (s:ByteArray) (w:World) (hs:s.size<=1000000000000) :
 Calls Tryz.prog 149 #[.string s] w fun e w'=>e=.returned (.string (quoteB s))/\Below w.heap.size w w':=quote_any s w hs
theorem itoa_at (n:Int) (h0:-9223372036854775808<=n) (h1:n<=9223372036854775807) (w:World) (hG:G w) :
  Calls Tryz.prog 150 #[.int .i64 n] w fun e w'=>e=.returned (.string (itoaB n))/\Below w.heap.size w w' :=
 (Tryz.strconv_Itoa n h0 h1 w hG).mono fun e w' ⟨he,k,os,hw⟩=>⟨he,by rw [hw];exact Lib.below_grow _ _ (Nat.le_refl _) _ _⟩
theorem chk_range {k n:Int} {s:ByteArray} (h:chkV k n s=0):(k=1/\-2147483648<=n/\n<=2147483647/\s.size=0) ∨ (k=2/\n=0/\s.size<=64):=by
 unfold chkV at h
 by_cases hc:(k=1/\-2147483648<=n/\n<=2147483647/\s.size=0) ∨ (k=2/\n=0/\s.size<=64)
 ·exact hc
 ·rw [if_neg hc] at h;omega
theorem chk_01 (k n:Int) (s:ByteArray):chkV k n s=0 ∨ chkV k n s=1:=by unfold chkV;split <;> simp
/-- How a value is written; nothing, if it is not in form. -/
def textB (k n:Int) (s:ByteArray):ByteArray:=if chkV k n s=0 then (if k=2 then quoteB s else itoaB n) else ⟨#[]⟩
set_option maxHeartbeats 400000 in
theorem text_bad (k n:Int) (s:ByteArray) (w:World) (h:chkV k n s=1) :
  Calls Tryz.prog 135 #[.agg #[.int .i64 k,.int .i64 n,.string s]] w fun e w'=>e=.returned (.tuple #[.string (textB k n s),.int .i64 (chkV k n s)])/\Below w.heap.size w w':=by
 have ht:textB k n s=⟨#[]⟩:=by unfold textB;rw [if_neg (by omega)]
 have hc:=check_any k n s
 rw [ht,h]
 rw [h] at hc
 clear ht h
 go_enter Tryz.func135,Tryz.ntmps135
 go_wp2_with (go_at_call 115;refine (hc _).mono ?_;rintro e w' ⟨rfl,hb⟩)
 go_ret2
 exact ⟨rfl,below_sub ((Below.refl _ _).alloc (Nat.le_refl _) _) hb⟩
theorem bcell {W w1:World} (hb:Below W.heap.size W w1):(∀ b o,b < W.heap.size->w1.cell? ⟨b,o,none⟩=W.cell? ⟨b,o,none⟩)/\(∀ b o,b < W.heap.size->w1.frozen? ⟨b,o,none⟩=W.frozen? ⟨b,o,none⟩) :=
 ⟨fun b o h=>hb.cell (p:=⟨b,o,none⟩) h,fun b o h=>hb.frozen (p:=⟨b,o,none⟩) h⟩
set_option maxHeartbeats 400000 in
theorem text_word (s:ByteArray) (w:World) (h:s.size<=64) :
  Calls Tryz.prog 135 #[.agg #[.int .i64 2,.int .i64 0,.string s]] w fun e w'=>e=.returned (.tuple #[.string (textB 2 0 s),.int .i64 (chkV 2 0 s)])/\Below w.heap.size w w':=by
 have h0:chkV 2 0 s=0:=chk_yes2 rfl rfl (by omega)
 have ht:textB 2 0 s=quoteB s:=by unfold textB;rw [if_pos h0,if_pos rfl]
 have hc:=check_any 2 0 s
 rw [ht,h0]
 rw [h0] at hc
 clear ht h0
 go_enter Tryz.func135,Tryz.ntmps135
 go_wp2_with (first
  | (go_at_call 115;refine (hc _).mono ?_;rintro e w1 ⟨rfl,hb⟩;obtain ⟨hcell,hfr⟩:=bcell hb;simp at hcell)
  | (go_at_call 149;refine (quote_at s _ (by omega)).mono ?_;rintro e w2 ⟨rfl,hb2⟩))
 go_ret2
 exact ⟨rfl,below_sub (below_sub ((Below.refl _ _).alloc (Nat.le_refl _) _) hb) hb2⟩
set_option maxHeartbeats 400000 in
theorem text_int (n:Int) (s:ByteArray) (w:World) (hG:G w) (h1:-2147483648<=n) (h2:n<=2147483647) (hs:s.size=0) :
  Calls Tryz.prog 135 #[.agg #[.int .i64 1,.int .i64 n,.string s]] w fun e w'=>e=.returned (.tuple #[.string (textB 1 n s),.int .i64 (chkV 1 n s)])/\Below w.heap.size w w':=by
 have h0:chkV 1 n s=0:=chk_yes1 rfl h1 h2 ((empty_iff s).2 hs)
 have ht:textB 1 n s=itoaB n:=by unfold textB;rw [if_pos h0,if_neg (by decide)]
 have hc:=check_any 1 n s
 rw [ht,h0]
 rw [h0] at hc
 clear ht h0 hs
 go_enter Tryz.func135,Tryz.ntmps135
 go_wp2_with (first
  | (go_at_call 115;refine (hc _).mono ?_;rintro e w1 ⟨rfl,hb⟩;obtain ⟨hcell,hfr⟩:=bcell hb;simp at hcell)
  | (go_at_call 150;refine (itoa_at n (by omega) (by omega) _ (by exact G_below (G_alloc hG _) hb)).mono ?_;rintro e w2 ⟨rfl,hb2⟩))
 go_ret2
 exact ⟨rfl,below_sub (below_sub ((Below.refl _ _).alloc (Nat.le_refl _) _) hb) hb2⟩
theorem text_any (k n:Int) (s:ByteArray) (w:World) (hG:G w) :
  Calls Tryz.prog 135 #[.agg #[.int .i64 k,.int .i64 n,.string s]] w fun e w'=>e=.returned (.tuple #[.string (textB k n s),.int .i64 (chkV k n s)])/\Below w.heap.size w w':=by
 rcases chk_01 k n s with h | h
 ·rcases chk_range h with ⟨rfl,h1,h2,h3⟩ | ⟨rfl,rfl,h3⟩
  ·exact text_int n s w hG h1 h2 h3
  ·exact text_word s w h3
 ·exact text_bad k n s w h
theorem below_st3 {w w1:World} {o:Obj} (hb:Below (w.alloc o).heap.size (w.alloc o) w1) (x y z:Value):Below w.heap.size w (((w1.setCell ⟨w.heap.size,0,none⟩ x).setCell ⟨w.heap.size,1,none⟩ y).setCell ⟨w.heap.size,2,none⟩ z) :=
 (((below_sub ((Below.refl _ _).alloc (Nat.le_refl _) _) hb).setCell (Nat.le_refl _) _).setCell (Nat.le_refl _) _).setCell (Nat.le_refl _) _
theorem toList_ne {a b:ByteArray} (h:a ≠ b):(a.toList == b.toList)=false:=by
 rw [beq_eq_false_iff_ne]
 intro h2
 rw [ByteArray.toList_eq,ByteArray.toList_eq] at h2
 exact h (WideShapes.bytes_inj h2)
end Go.Proofs.YtencibjmiphinaaGreatDoor
namespace Go.Proofs.YtencibjmiphinaaGreatDoor
open Go.RowKit Go.Sort
theorem OwnK.from {α:Type} [Inhabited α] {enc:α->List Value} {k B:Nat} {e:TypeId} {w:World} {q:Option Addr} {cap:Nat} {l:List α} (h:OwnK enc e k B w q cap l):∀ a,q=some a->B<=a.block:=by
 intro a ha
 rcases h.2 with ⟨h0,_⟩ | ⟨g,cp,cur,hv,hB,_⟩
 ·injection h0 with h1;rw [ha] at h1;cases h1
 ·injection hv with h1;rw [ha] at h1;cases h1;exact hB
/-- Nothing that was there has turned, but for the blocks S. -/
structure Aw (S:List Nat) (w w':World):Prop where
  os:w'.os=w.os
  tape:w'.tape=w.tape
  output:w'.output=w.output
  size:w.heap.size<=w'.heap.size
  block:∀ k,k < w.heap.size->k ∉ S->w'.heap[k]? = w.heap[k]?
theorem Aw.refl (S:List Nat) (w:World):Aw S w w:=⟨rfl,rfl,rfl,Nat.le_refl _,fun _ _ _=>rfl⟩
theorem Aw.trans {S:List Nat} {a b c:World} (h:Aw S a b) (h2:Aw S b c):Aw S a c :=
 ⟨h2.os.trans h.os,h2.tape.trans h.tape,h2.output.trans h.output,Nat.le_trans h.size h2.size,fun k hk hn=>(h2.block k (Nat.lt_of_lt_of_le hk h.size) hn).trans (h.block k hk hn)⟩
theorem Aw.mono {S T:List Nat} {a b:World} (h:Aw S a b) (hs:∀ k ∈ S,k ∈ T ∨ a.heap.size<=k):Aw T a b :=
 ⟨h.os,h.tape,h.output,h.size,fun k hk hn=>h.block k hk (fun h1=>by
  rcases hs k h1 with h2 | h2
  ·exact hn h2
  ·omega)⟩
/-- A step behind a step: its blocks are among the first's, or new. -/
theorem Aw.more {S T:List Nat} {a b c:World} (h:Aw S a b) (h2:Aw T b c) (hs:∀ k ∈ T,k ∈ S ∨ a.heap.size<=k):Aw S a c :=
  ⟨h2.os.trans h.os,h2.tape.trans h.tape,h2.output.trans h.output,Nat.le_trans h.size h2.size,fun k hk hn=>(h2.block k (Nat.lt_of_lt_of_le hk h.size) (fun h1=>by
    rcases hs k h1 with h3 | h3
    · exact hn h3
    · omega)).trans (h.block k hk hn)⟩
theorem Aw.below {w w':World} (S:List Nat) (h:Below w.heap.size w w'):Aw S w w':=⟨h.os,h.tape,h.output,h.size,fun k hk _=>h.block k hk⟩
/-- The block of a slice. -/
def bk (q:Option Addr):List Nat:=(q.map (·.block)).toList
section
variable {α : Type} [Inhabited α] {enc : α -> List Value} {e : TypeId} {k : Nat}
theorem OwnK.at_blk {w:World} {q:Option Addr} {cap:Nat} {l:List α} (h:OwnK enc e k 0 w q cap l) {b:Nat} (hb:b ∈ bk q):q=some ⟨b,0,none⟩/\∃ cur,w.heap[b]? = some (.cells cur e (0,0)):=by
 rcases h.2 with ⟨h0,_⟩ | ⟨g,c,cur,h0,_,h1,_⟩
 ·injection h0 with h2 h3 h4
  subst h2
  simp [bk] at hb
 ·injection h0 with h2 h3 h4
  subst h2
  obtain rfl:b=g:=by simpa [bk] using hb
  exact ⟨rfl,cur,h1⟩
theorem OwnK.bk_lt {w:World} {q:Option Addr} {cap:Nat} {l:List α} (h:OwnK enc e k 0 w q cap l) {b:Nat} (hb:b ∈ bk q):b < w.heap.size:=by
 obtain ⟨_,cur,hc⟩:=h.at_blk hb
 exact (Array.getElem?_eq_some_iff.1 hc).1
theorem OwnK.blk {w w':World} {q:Option Addr} {cap:Nat} {l:List α} (h:OwnK enc e k 0 w q cap l) (hb:∀ b ∈ bk q,w'.heap[b]? = w.heap[b]?):OwnK enc e k 0 w' q cap l:=by
 refine ⟨h.1, ?_⟩
 rcases h.2 with h0 | ⟨g,c,cur,h0,h1,h2,h3⟩
 ·exact Or.inl h0
 ·refine Or.inr ⟨g,c,cur,h0,h1, ?_,h3⟩
  injection h0 with h4 h5 h6
  subst h4
  rw [hb g (by simp [bk])]
  exact h2
theorem OwnK.low {B:Nat} {w:World} {q:Option Addr} {cap:Nat} {l:List α} (h:OwnK enc e k B w q cap l):OwnK enc e k 0 w q cap l:=by
 refine ⟨h.1, ?_⟩
 rcases h.2 with h0 | ⟨g,c,cur,h0,h1,h2⟩
 ·exact Or.inl h0
 ·exact Or.inr ⟨g,c,cur,h0,Nat.zero_le _,h2⟩
theorem bk_nodup (q:Option Addr):(bk q).Nodup:=by cases q <;> simp [bk]
theorem OwnK.aw {S:List Nat} {w w':World} {q:Option Addr} {cap:Nat} {l:List α} (h:OwnK enc e k 0 w q cap l) (ha:Aw S w w') (hd:∀ b ∈ bk q,b ∉ S):OwnK enc e k 0 w' q cap l:=by
 refine ⟨h.1, ?_⟩
 rcases h.2 with h0 | ⟨g,c,cur,h0,h1,h2,h3⟩
 ·exact Or.inl h0
 ·refine Or.inr ⟨g,c,cur,h0,h1, ?_,h3⟩
  injection h0 with h4 h5 h6
  subst h4
  rw [ha.block g (Array.getElem?_eq_some_iff.1 h2).1 (hd g (by simp [bk]))]
  exact h2
end
theorem bk_ne {α β:Type} [Inhabited α] [Inhabited β] {enc:α->List Value} {enc':β->List Value} {e e':TypeId} {k k':Nat} {w:World} {q q':Option Addr} {c c':Nat} {l:List α} {l':List β} (h:OwnK enc e k 0 w q c l) (h':OwnK enc' e' k' 0 w q' c' l') (hn:e ≠ e'):∀ b ∈ bk q,b ∉ bk q':=fun b h1 h2=>by
 obtain ⟨_,cur,hc⟩:=h.at_blk h1
 obtain ⟨_,cur',hc'⟩:=h'.at_blk h2
 rw [hc] at hc'
 injection hc' with h3
 injection h3 with h4 h5
 exact hn h5
/-- A tree whose rows are its own, no two of them one; their blocks. -/
inductive NdOwn (w:World):Nv->Nd->List Nat->Prop
  | mk {kind:Int} {attr:ByteArray} {ints:List Int} {words:List ByteArray} {lo hi op:Int} {kids:List Nd} {qi:Option Addr} {ci:Nat} {qw:Option Addr} {cw:Nat} {qk:Option Addr} {ck:Nat} {vs:List Nv} {Ss:List (List Nat)} :
      OwnK encI 3 1 0 w qi ci ints->OwnK encS 9 1 0 w qw cw words->OwnK encV 29 8 0 w qk ck vs->vs.length=kids.length->Ss.length=kids.length->(∀ (j:Nat) (v:Nv) (x:Nd) (S:List Nat),vs[j]? = some v->kids[j]? = some x->Ss[j]? = some S->NdOwn w v x S) ->
      (bk qi ++ bk qw ++ bk qk ++ Ss.flatten).Nodup ->
      NdOwn w ⟨kind,attr,qi,ints.length,ci,qw,words.length,cw,lo,hi,op,qk,kids.length,ck⟩ (.mk kind attr ints words lo hi op kids) (bk qi ++ bk qw ++ bk qk ++ Ss.flatten)
theorem mem_flat {Ss:List (List Nat)} {j:Nat} {S:List Nat} {b:Nat} (h:Ss[j]? = some S) (hb:b ∈ S):b ∈ Ss.flatten:=List.mem_flatten.2 ⟨S,List.mem_of_getElem? h,hb⟩
theorem get_some {α:Type} {l:List α} {n j:Nat} (hl:l.length=n) (hj:j < n):∃ x,l[j]? = some x:=⟨l[j]'(by omega),List.getElem?_eq_getElem _⟩
theorem NdOwn.blk {w w':World} {v:Nv} {t:Nd} {S:List Nat} (h:NdOwn w v t S) (hb:∀ b ∈ S,w'.heap[b]? = w.heap[b]?):NdOwn w' v t S:=by
 induction h with
 | mk a1 a2 a3 hl hs hr hn ih =>
  refine .mk (a1.blk (fun b h=>hb b (by simp [h]))) (a2.blk (fun b h=>hb b (by simp [h]))) (a3.blk (fun b h=>hb b (by simp [h]))) hl hs (fun j v x S hv hx hS=>ih j v x S hv hx hS (fun b h=>hb b (List.mem_append_right _ (mem_flat hS h)))) hn
theorem NdOwn.toIn {w:World} {v:Nv} {t:Nd} {S:List Nat} (h:NdOwn w v t S):NdIn w v t:=by
 induction h with
 | mk a1 a2 a3 hl hs hr hn ih =>
  refine .mk a1.ls a2.ls a3.ls hl fun j v x hj hx=>?_
  have hj2:=(List.getElem?_eq_some_iff.1 hj).1
  obtain ⟨S,hS⟩:=get_some (j:=j) hs (by omega)
  exact ih j v x S hj hx hS
theorem NdOwn.aw {T:List Nat} {w w':World} {v:Nv} {t:Nd} {S:List Nat} (h:NdOwn w v t S) (ha:Aw T w w') (hd:∀ b ∈ S,b ∉ T):NdOwn w' v t S:=by
 induction h with
 | mk a1 a2 a3 hl hs hr hn ih =>
  refine .mk (a1.aw ha (fun b hb=>hd b (by simp [hb]))) (a2.aw ha (fun b hb=>hd b (by simp [hb]))) (a3.aw ha (fun b hb=>hd b (by simp [hb]))) hl hs (fun j v x S hv hx hS=>ih j v x S hv hx hS (fun b hb=>hd b (List.mem_append_right _ (mem_flat hS hb)))) hn
theorem NdOwn.lt {w:World} {v:Nv} {t:Nd} {S:List Nat} (h:NdOwn w v t S):∀ b ∈ S,b < w.heap.size:=by
 induction h with
 | @mk kind attr ints words lo hi op kids qi ci qw cw qk ck vs Ss a1 a2 a3 hl hs hr hn ih =>
  intro b hb
  simp only [List.mem_append,List.mem_flatten] at hb
  rcases hb with ((hb | hb) | hb) | ⟨S,hS,hb⟩
  ·exact a1.bk_lt hb
  ·exact a2.bk_lt hb
  ·exact a3.bk_lt hb
  ·obtain ⟨j,hj,rfl⟩:=List.mem_iff_getElem.1 hS
   obtain ⟨v,hv⟩:=get_some (j:=j) hl (by omega)
   obtain ⟨x,hx⟩:=get_some (l:=kids) (j:=j) rfl (by omega)
   exact ih j v x _ hv hx (List.getElem?_eq_getElem hj) b hb
/-- The blocks of two kids are apart, and apart from the row of kids. -/
theorem own_apart {A K:List Nat} {Ss:List (List Nat)} (hn:(A ++ K ++ Ss.flatten).Nodup) {i j:Nat} {S T:List Nat} (hS:Ss[i]? = some S) (hT:Ss[j]? = some T) (hij:i ≠ j):(∀ b ∈ S,b ∉ T)/\∀ b ∈ S,b ∉ K:=by
  obtain ⟨_,h2,h3⟩:=List.nodup_append.1 hn
  refine ⟨fun b h4 h5=>?_,fun b h4 h5=>h3 b (List.mem_append_right _ h5) b (mem_flat hS h4) rfl⟩
  unfold List.Nodup at h2
  obtain ⟨_,hp⟩:=List.pairwise_flatten.1 h2
  rw [List.pairwise_iff_getElem] at hp
  obtain ⟨hi,e1⟩:=List.getElem?_eq_some_iff.1 hS
  obtain ⟨hj,e2⟩:=List.getElem?_eq_some_iff.1 hT
  rcases Nat.lt_or_gt_of_ne hij with h | h
  · exact hp i j hi hj h b (e1 ▸ h4) b (e2 ▸ h5) rfl
  · exact hp j i hj hi h b (e2 ▸ h5) b (e1 ▸ h4) rfl
/-- The tree of v lies in memory in rows of its own, all of it in blocks from B on. -/
def NdFrom (w:World) (B:Nat) (v:Nv) (t:Nd):Prop:=∃ S,NdOwn w v t S/\∀ b ∈ S,B<=b
theorem NdFrom.toIn {w:World} {B:Nat} {v:Nv} {t:Nd} (h:NdFrom w B v t):NdIn w v t:=by obtain ⟨S,h,_⟩:=h;exact h.toIn
theorem NdFrom.mono {w:World} {B B':Nat} {v:Nv} {t:Nd} (h:NdFrom w B v t) (hB:B'<=B):NdFrom w B' v t:=by obtain ⟨S,h,h2⟩:=h;exact ⟨S,h,fun b hb=>Nat.le_trans hB (h2 b hb)⟩
/-- A later world that has the same cells from B on. -/
def SameUp (B:Nat) (w w':World):Prop:=w.heap.size<=w'.heap.size/\∀ b,B<=b->b < w.heap.size->w'.heap[b]? = w.heap[b]?
theorem SameUp.cell {B:Nat} {w w':World} (h:SameUp B w w') (b o:Nat) (h1:B<=b) (h2:b < w.heap.size):w'.cell? ⟨b,o,none⟩=w.cell? ⟨b,o,none⟩:=World.cell?_of_block (w:=w) (a:=⟨b,o,none⟩) (h.2 b h1 h2)
theorem SlOf.up {α:Type} [Inhabited α] {enc:α->List Value} {k B:Nat} {w w':World} {q:Option Addr} {c:Nat} {l:List α} (h:SlOf enc k w q c l) (hq:∀ a,q=some a->B<=a.block) (hu:SameUp B w w'):SlOf enc k w' q c l:=by
 refine ⟨h.1,h.2.1,h.2.2.1,fun h0=>?_⟩
 obtain ⟨b,off,rfl,hB,hA⟩:=h.2.2.2 h0
 exact ⟨b,off,rfl,Nat.lt_of_lt_of_le hB hu.1,fun j u hj=>(hu.cell b (off + j) (hq _ rfl) hB).trans (hA j u hj)⟩
theorem NdFrom.up {w w':World} {B:Nat} {v:Nv} {t:Nd} (h:NdFrom w B v t) (hu:SameUp B w w'):NdFrom w' B v t:=by
 obtain ⟨S,h,h2⟩:=h
 exact ⟨S,h.blk fun b hb=>hu.2 b (h2 b hb) (h.lt b hb),h2⟩
theorem OwnK.up {α:Type} [Inhabited α] {enc:α->List Value} {e:TypeId} {k B:Nat} {w w':World} {q:Option Addr} {cap:Nat} {l:List α} (h:OwnK enc e k 0 w q cap l) (hq:∀ a,q=some a->B<=a.block) (hu:SameUp B w w'):OwnK enc e k 0 w' q cap l :=
 h.blk fun b hb=>hu.2 b (by obtain ⟨e1,_⟩:=h.at_blk hb;exact hq _ e1) (h.bk_lt hb)
theorem SameUp.of {B:Nat} {w w':World} (h:Below w.heap.size w w'):SameUp B w w':=⟨h.size,fun b _ hb=>h.block b hb⟩
theorem SameUp.trans {B:Nat} {x y z:World} (h:SameUp B x y) (k:SameUp B y z):SameUp B x z:=⟨Nat.le_trans h.1 k.1,fun b h1 h2=>(k.2 b h1 (Nat.lt_of_lt_of_le h2 h.1)).trans (h.2 b h1 h2)⟩
theorem SameUp.grown {B g:Nat} {w w':World} (h:w.grownBy w' (some g)) (hg:g < B):SameUp B w w':=⟨h.size,fun b h1 h2=>h.block b h2 (fun e=>by cases e;omega)⟩
theorem NdFrom.keep {w w':World} {B:Nat} {v:Nv} {t:Nd} (h:NdFrom w B v t) (hb:Below w.heap.size w w'):NdFrom w' B v t:=h.up (SameUp.of hb)
/-- A tree with no kids. -/
theorem NdFrom.leaf {w:World} {B:Nat} {kind:Int} {attr:ByteArray} {ints:List Int} {words:List ByteArray} {lo hi op:Int} {qi:Option Addr} {ci:Nat} {qw:Option Addr} {cw:Nat}
    (h1:OwnK encI 3 1 0 w qi ci ints) (f1:∀ a,qi=some a->B<=a.block) (h2:OwnK encS 9 1 0 w qw cw words) (f2:∀ a,qw=some a->B<=a.block) :
    NdFrom w B ⟨kind,attr,qi,ints.length,ci,qw,words.length,cw,lo,hi,op,none,0,0⟩ (.mk kind attr ints words lo hi op []):=by
  have hn:=bk_ne h1 h2 (by decide)
  refine ⟨_,NdOwn.mk (kids:=[]) (vs:=[]) (Ss:=[]) h1 h2 (OwnK.nil _ _) rfl rfl (fun j v x S h=>by simp at h) ?_,fun b hb=>?_⟩
  · simp only [bk,Option.map_none,Option.toList_none,List.append_nil,List.flatten_nil]
    exact List.nodup_append.2 ⟨bk_nodup qi,bk_nodup qw,fun a ha b hb e=>hn a ha (e ▸ hb)⟩
  · simp only [bk,Option.map_none,Option.toList_none,List.append_nil,List.flatten_nil,List.mem_append] at hb
    rcases hb with hb | hb
    · obtain ⟨e,_⟩:=h1.at_blk hb;exact f1 _ e
    · obtain ⟨e,_⟩:=h2.at_blk hb;exact f2 _ e
set_option maxRecDepth 100000 in
set_option maxHeartbeats 1000000 in
theorem cloneI (q:Option Addr) (c:Nat) (l:List Int) (w:World) (h:SlOf encI 1 w q c l) (hl:l.length<=1000000000000) :
  Calls Tryz.prog 184 #[.slice q l.length c] w fun e w'=>∃ q' c',e=.returned (.slice q' l.length c')/\OwnK encI 3 1 w.heap.size w' q' c' l/\Below w.heap.size w w':=by
 cases q with
 | none =>
  obtain ⟨h0,rfl⟩:=h.1 rfl
  obtain rfl:l=[]:=List.length_eq_zero_iff.1 h0
  have heq:=fun (w:World)=>Lib.run_eql_slice_nil (P:=Tryz.prog) w 23 3 none 0 0 0 0 Tryz.underlying23
  clear h h0
  go_enter Tryz.func184,Tryz.ntmps184
  go_wp2
  go_ret
  exact ⟨none,0,rfl,OwnK.nil _ _,Below.refl _ _⟩
 | some a =>
  have HS:=hide h
  have heq:=fun (w:World)=>Lib.run_eql_slice_nil (P:=Tryz.prog) w 23 3 (some a) l.length c 0 0 Tryz.underlying23
  clear h
  go_enter Tryz.func184,Tryz.ntmps184
  go_wp2_with (at_builtin;refine wpList_app rowI rfl _ _ rfl w.heap.size (some ⟨w.heap.size,0,none⟩) 0 [] (some a) c l 0 l.length l.length rfl rfl (by omega) rfl rfl (OwnK.made _ _ (Nat.le_refl _)) ((uh HS).below ((Below.refl _ _).alloc (Nat.le_refl _) _)).src (by unfold maxLen;omega) (by omega) (by simp) ?_;intro q2 c2 w2 hown2 hb2 _ hg2)
  go_ret
  exact ⟨q2,c2,rfl,by simpa using hown2,((Below.refl _ _).alloc (Nat.le_refl _) _).trans hb2⟩
set_option maxRecDepth 100000 in
set_option maxHeartbeats 1000000 in
theorem cloneS (q:Option Addr) (c:Nat) (l:List ByteArray) (w:World) (h:SlOf encS 1 w q c l) (hl:l.length<=1000000000000) :
  Calls Tryz.prog 183 #[.slice q l.length c] w fun e w'=>∃ q' c',e=.returned (.slice q' l.length c')/\OwnK encS 9 1 w.heap.size w' q' c' l/\Below w.heap.size w w':=by
 cases q with
 | none =>
  obtain ⟨h0,rfl⟩:=h.1 rfl
  obtain rfl:l=[]:=List.length_eq_zero_iff.1 h0
  have heq:=fun (w:World)=>Lib.run_eql_slice_nil (P:=Tryz.prog) w 24 9 none 0 0 0 0 Tryz.underlying24
  clear h h0
  go_enter Tryz.func183,Tryz.ntmps183
  go_wp2
  go_ret
  exact ⟨none,0,rfl,OwnK.nil _ _,Below.refl _ _⟩
 | some a =>
  have HS:=hide h
  have heq:=fun (w:World)=>Lib.run_eql_slice_nil (P:=Tryz.prog) w 24 9 (some a) l.length c 0 0 Tryz.underlying24
  clear h
  go_enter Tryz.func183,Tryz.ntmps183
  go_wp2_with (at_builtin;refine wpList_app rowS rfl _ _ rfl w.heap.size (some ⟨w.heap.size,0,none⟩) 0 [] (some a) c l 0 l.length l.length rfl rfl (by omega) rfl rfl (OwnK.made _ _ (Nat.le_refl _)) ((uh HS).below ((Below.refl _ _).alloc (Nat.le_refl _) _)).src (by unfold maxLen;omega) (by omega) (by simp) ?_;intro q2 c2 w2 hown2 hb2 _ hg2)
  go_ret
  exact ⟨q2,c2,rfl,by simpa using hown2,((Below.refl _ _).alloc (Nat.le_refl _) _).trans hb2⟩
end Go.Proofs.YtencibjmiphinaaGreatDoor

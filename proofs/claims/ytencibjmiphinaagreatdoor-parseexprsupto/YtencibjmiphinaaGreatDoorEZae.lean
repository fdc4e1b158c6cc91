/- The contracts of the Go library for strconv.Itoa and for the method String of strings.Builder, laid at this program. -/
import Derived.Shelf.Strconv.Itoa3
import Derived.Shelf.LaysM
import Derived.Shelf.Strings.BuilderK
import Derived.Test.YtencibjmiphinaaGreatDoorELxShelf
import Derived.Test.YtencibjmiphinaaGreatDoorEZab
import Derived.Lib.SmallJoins
import Derived.Lib.AppendIntMem
import Derived.Test.YtencibjmiphinaaGreatDoorEZac
import Derived.Lib.SliceRun
namespace Go.Proofs
open Go.Shelf
end Go.Proofs
namespace Go.Proofs.YtencibjmiphinaaGreatDoor
open Go.RowKit

/-- What the listed variables of the library hold. -/
def G (w:World):Prop:=Lib.TabIs Tryz.prog w "internal/strconv.uint64pow10" .u64 Lib.pow10Tab
theorem var_stays {w w':World} {n:String} {cs:Array Value} (hb:Below w.heap.size w w') (h:w.var? Tryz.prog n=some cs):w'.var? Tryz.prog n=some cs:=by
  unfold World.var? at h
  cases hg:Tryz.prog.globalNamed n with
  | none=>rw [hg] at h;simp at h
  | some g =>
    refine var?_below hb hg ?_ (by unfold World.var?;exact h)
    rw [hg] at h
    simp only [Option.bind_some] at h
    cases hx:w.heap[g]? with
    | none=>rw [hx] at h;simp at h
    | some o=>exact (Array.getElem?_eq_some_iff.1 hx).1
theorem G_below {w w':World} (h:G w) (hb:Below w.heap.size w w'):G w':=var_stays hb h
theorem G_alloc {w:World} (h:G w) (o:Obj):G (w.alloc o):=G_below h ((Below.refl _ _).alloc (Nat.le_refl _) _)
theorem below_sub {a b c:World} (h:Below a.heap.size a b) (h2:Below b.heap.size b c):Below a.heap.size a c:=h.trans (h2.mono h.size)

def quoteB (s:ByteArray):ByteArray:=⟨(quoteL s.data.toList).toArray⟩
def itoaB (n:Int):ByteArray:=⟨(Lib.itoa n).toArray⟩
theorem quote_at (s:ByteArray) (w:World) (hs:s.size≤1000000000000) :
    Calls Tryz.prog 149 #[.string s] w fun e w'=>e=.returned (.string (quoteB s))∧Below w.heap.size w w':=quote_any s w hs
theorem itoa_at (n:Int) (h0:-9223372036854775808≤n) (h1:n≤9223372036854775807) (w:World) (hG:G w) :
    Calls Tryz.prog 150 #[.int .i64 n] w fun e w'=>e=.returned (.string (itoaB n))∧Below w.heap.size w w' :=
  (Tryz.strconv_Itoa n h0 h1 w hG).mono fun e w' ⟨he,k,os,hw⟩=>⟨he,by rw [hw];exact Lib.below_grow _ _ (Nat.le_refl _) _ _⟩

theorem chk_range {k n:Int} {s:ByteArray} (h:chkV k n s=0):(k=1∧-2147483648≤n∧n≤2147483647∧s.size=0) ∨ (k=2∧n=0∧s.size≤64):=by
  unfold chkV at h
  by_cases hc:(k=1∧-2147483648≤n∧n≤2147483647∧s.size=0) ∨ (k=2∧n=0∧s.size≤64)
  · exact hc
  · rw [if_neg hc] at h;omega
theorem chk_01 (k n:Int) (s:ByteArray):chkV k n s=0 ∨ chkV k n s=1:=by unfold chkV;split <;> simp

/-- How a value is written; nothing, if it is not in form. -/
def textB (k n:Int) (s:ByteArray):ByteArray:=if chkV k n s=0 then (if k=2 then quoteB s else itoaB n) else ⟨#[]⟩

set_option maxHeartbeats 400000 in
theorem text_bad (k n:Int) (s:ByteArray) (w:World) (h:chkV k n s=1) :
    Calls Tryz.prog 135 #[.agg #[.int .i64 k,.int .i64 n,.string s]] w fun e w'=>e=.returned (.tuple #[.string (textB k n s),.int .i64 (chkV k n s)])∧Below w.heap.size w w':=by
  have ht:textB k n s=⟨#[]⟩:=by unfold textB;rw [if_neg (by omega)]
  have hc:=check_any k n s
  rw [ht,h]
  rw [h] at hc
  clear ht h
  go_enter Tryz.func135,Tryz.ntmps135
  go_wp2_with (go_at_call 115;refine (hc _).mono ?_;rintro e w' ⟨rfl,hb⟩)
  go_ret2
  exact ⟨rfl,below_sub ((Below.refl _ _).alloc (Nat.le_refl _) _) hb⟩

theorem bcell {W w1:World} (hb:Below W.heap.size W w1):(∀ b o,b < W.heap.size→w1.cell? ⟨b,o,none⟩=W.cell? ⟨b,o,none⟩)∧(∀ b o,b < W.heap.size→w1.frozen? ⟨b,o,none⟩=W.frozen? ⟨b,o,none⟩) :=
  ⟨fun b o h=>hb.cell (p:=⟨b,o,none⟩) h,fun b o h=>hb.frozen (p:=⟨b,o,none⟩) h⟩

set_option maxHeartbeats 400000 in
theorem text_word (s:ByteArray) (w:World) (h:s.size≤64) :
    Calls Tryz.prog 135 #[.agg #[.int .i64 2,.int .i64 0,.string s]] w fun e w'=>e=.returned (.tuple #[.string (textB 2 0 s),.int .i64 (chkV 2 0 s)])∧Below w.heap.size w w':=by
  have h0:chkV 2 0 s=0:=chk_yes2 rfl rfl (by omega)
  have ht:textB 2 0 s=quoteB s:=by unfold textB;rw [if_pos h0,if_pos rfl]
  have hc:=check_any 2 0 s
  rw [ht,h0]
  rw [h0] at hc
  clear ht h0
  go_enter Tryz.func135,Tryz.ntmps135
  go_wp2_with (first
    | (go_at_call 115;refine (hc _).mono ?_;rintro e w1 ⟨rfl,hb⟩;obtain ⟨hcell,hfr⟩:=bcell hb;simp at hcell)
    | (go_at_call 149;refine (quote_at s _ (by omega)).mono ?_;rintro e w2 ⟨rfl,hb2⟩))
  go_ret2
  exact ⟨rfl,below_sub (below_sub ((Below.refl _ _).alloc (Nat.le_refl _) _) hb) hb2⟩

set_option maxHeartbeats 400000 in
theorem text_int (n:Int) (s:ByteArray) (w:World) (hG:G w) (h1:-2147483648≤n) (h2:n≤2147483647) (hs:s.size=0) :
    Calls Tryz.prog 135 #[.agg #[.int .i64 1,.int .i64 n,.string s]] w fun e w'=>e=.returned (.tuple #[.string (textB 1 n s),.int .i64 (chkV 1 n s)])∧Below w.heap.size w w':=by
  have h0:chkV 1 n s=0:=chk_yes1 rfl h1 h2 ((empty_iff s).2 hs)
  have ht:textB 1 n s=itoaB n:=by unfold textB;rw [if_pos h0,if_neg (by decide)]
  have hc:=check_any 1 n s
  rw [ht,h0]
  rw [h0] at hc
  clear ht h0 hs
  go_enter Tryz.func135,Tryz.ntmps135
  go_wp2_with (first
    | (go_at_call 115;refine (hc _).mono ?_;rintro e w1 ⟨rfl,hb⟩;obtain ⟨hcell,hfr⟩:=bcell hb;simp at hcell)
    | (go_at_call 150;refine (itoa_at n (by omega) (by omega) _ (by exact G_below (G_alloc hG _) hb)).mono ?_;rintro e w2 ⟨rfl,hb2⟩))
  go_ret2
  exact ⟨rfl,below_sub (below_sub ((Below.refl _ _).alloc (Nat.le_refl _) _) hb) hb2⟩

theorem text_any (k n:Int) (s:ByteArray) (w:World) (hG:G w) :
    Calls Tryz.prog 135 #[.agg #[.int .i64 k,.int .i64 n,.string s]] w fun e w'=>e=.returned (.tuple #[.string (textB k n s),.int .i64 (chkV k n s)])∧Below w.heap.size w w':=by
  rcases chk_01 k n s with h | h
  · rcases chk_range h with ⟨rfl,h1,h2,h3⟩ | ⟨rfl,rfl,h3⟩
    · exact text_int n s w hG h1 h2 h3
    · exact text_word s w h3
  · exact text_bad k n s w h

theorem below_st3 {w w1:World} {o:Obj} (hb:Below (w.alloc o).heap.size (w.alloc o) w1) (x y z:Value):Below w.heap.size w (((w1.setCell ⟨w.heap.size,0,none⟩ x).setCell ⟨w.heap.size,1,none⟩ y).setCell ⟨w.heap.size,2,none⟩ z) :=
  (((below_sub ((Below.refl _ _).alloc (Nat.le_refl _) _) hb).setCell (Nat.le_refl _) _).setCell (Nat.le_refl _) _).setCell (Nat.le_refl _) _

theorem toList_ne {a b:ByteArray} (h:a ≠ b):(a.toList == b.toList)=false:=by
  rw [beq_eq_false_iff_ne]
  intro h2
  rw [ByteArray.toList_eq,ByteArray.toList_eq] at h2
  exact h (WideShapes.bytes_inj h2)

end Go.Proofs.YtencibjmiphinaaGreatDoor
namespace Go.Proofs.YtencibjmiphinaaGreatDoor
open Go.RowKit Go.Sort

theorem OwnK.from {α:Type} [Inhabited α] {enc:α→List Value} {k B:Nat} {e:TypeId} {w:World} {q:Option Addr} {cap:Nat} {l:List α} (h:OwnK enc e k B w q cap l):∀ a,q=some a→B≤a.block:=by
  intro a ha
  rcases h.2 with ⟨h0,_⟩ | ⟨g,cp,cur,hv,hB,_⟩
  · injection h0 with h1;rw [ha] at h1;cases h1
  · injection hv with h1;rw [ha] at h1;cases h1;exact hB
/-- The tree of v lies in memory, all of it in blocks from B on. -/
inductive NdFrom (w:World) (B:Nat):Nv→Nd→Prop
  | mk {kind:Int} {attr:ByteArray} {ints:List Int} {words:List ByteArray} {lo hi op:Int} {kids:List Nd} {qi:Option Addr} {ci:Nat} {qw:Option Addr} {cw:Nat} {qk:Option Addr} {ck:Nat} {vs:List Nv} :
      SlOf encI 1 w qi ci ints→SlOf encS 1 w qw cw words→SlOf encV 8 w qk ck vs→(∀ a,qi=some a→B≤a.block)→(∀ a,qw=some a→B≤a.block)→(∀ a,qk=some a→B≤a.block)→vs.length=kids.length→(∀ (j:Nat) (v:Nv) (x:Nd),vs[j]? = some v→kids[j]? = some x→NdFrom w B v x) →
      NdFrom w B ⟨kind,attr,qi,ints.length,ci,qw,words.length,cw,lo,hi,op,qk,kids.length,ck⟩ (.mk kind attr ints words lo hi op kids)
theorem NdFrom.toIn {w:World} {B:Nat} {v:Nv} {t:Nd} (h:NdFrom w B v t):NdIn w v t:=by
  induction h with
  | mk hi hw hk _ _ _ hl hr ih=>exact .mk hi hw hk hl fun j v x hj hx=>ih j v x hj hx
theorem NdFrom.mono {w:World} {B B':Nat} {v:Nv} {t:Nd} (h:NdFrom w B v t) (hB:B'≤B):NdFrom w B' v t:=by
  induction h with
  | mk hi hw hk h1 h2 h3 hl hr ih=>exact .mk hi hw hk (fun a e=>Nat.le_trans hB (h1 a e)) (fun a e=>Nat.le_trans hB (h2 a e)) (fun a e=>Nat.le_trans hB (h3 a e)) hl fun j v x hj hx=>ih j v x hj hx
/-- A later world that has the same cells from B on. -/
def SameUp (B:Nat) (w w':World):Prop:=w.heap.size≤w'.heap.size∧∀ b o,B≤b→b < w.heap.size→w'.cell? ⟨b,o,none⟩=w.cell? ⟨b,o,none⟩
theorem SlOf.up {α:Type} [Inhabited α] {enc:α→List Value} {k B:Nat} {w w':World} {q:Option Addr} {c:Nat} {l:List α} (h:SlOf enc k w q c l) (hq:∀ a,q=some a→B≤a.block) (hu:SameUp B w w'):SlOf enc k w' q c l:=by
  refine ⟨h.1,h.2.1,h.2.2.1,fun h0=>?_⟩
  obtain ⟨b,off,rfl,hB,hA⟩:=h.2.2.2 h0
  exact ⟨b,off,rfl,Nat.lt_of_lt_of_le hB hu.1,fun j u hj=>(hu.2 b (off + j) (hq _ rfl) hB).trans (hA j u hj)⟩
theorem NdFrom.up {w w':World} {B:Nat} {v:Nv} {t:Nd} (h:NdFrom w B v t) (hu:SameUp B w w'):NdFrom w' B v t:=by
  induction h with
  | mk hi hw hk h1 h2 h3 hl hr ih=>exact .mk (hi.up h1 hu) (hw.up h2 hu) (hk.up h3 hu) h1 h2 h3 hl fun j v x hj hx=>ih j v x hj hx
theorem SameUp.of {B:Nat} {w w':World} (h:Below w.heap.size w w'):SameUp B w w':=⟨h.size,fun b o _ hb=>h.cell (p:=⟨b,o,none⟩) hb⟩
theorem SameUp.trans {B:Nat} {x y z:World} (h:SameUp B x y) (k:SameUp B y z):SameUp B x z:=⟨Nat.le_trans h.1 k.1,fun b o h1 h2=>(k.2 b o h1 (Nat.lt_of_lt_of_le h2 h.1)).trans (h.2 b o h1 h2)⟩
theorem SameUp.grown {B g:Nat} {w w':World} (h:w.grownBy w' (some g)) (hg:g < B):SameUp B w w':=⟨h.size,fun b o h1 h2=>World.cell?_of_block (w:=w) (a:=⟨b,o,none⟩) (h.block b h2 (fun e=>by cases e;omega))⟩
theorem NdFrom.keep {w w':World} {B:Nat} {v:Nv} {t:Nd} (h:NdFrom w B v t) (hb:Below w.heap.size w w'):NdFrom w' B v t:=h.up (SameUp.of hb)
theorem NdFrom.make {w:World} {B:Nat} {kind:Int} {attr:ByteArray} {ints:List Int} {words:List ByteArray} {lo hi op:Int} {kids:List Nd} {qi:Option Addr} {ci:Nat} {qw:Option Addr} {cw:Nat} {qk:Option Addr} {ck:Nat} {vs:List Nv}
    (h1:SlOf encI 1 w qi ci ints) (f1:∀ a,qi=some a→B≤a.block) (h2:SlOf encS 1 w qw cw words) (f2:∀ a,qw=some a→B≤a.block) (h3:SlOf encV 8 w qk ck vs) (f3:∀ a,qk=some a→B≤a.block) (hl:vs.length=kids.length) (hr:∀ (j:Nat) (v:Nv) (x:Nd),vs[j]? = some v→kids[j]? = some x→NdFrom w B v x) :
    NdFrom w B ⟨kind,attr,qi,ints.length,ci,qw,words.length,cw,lo,hi,op,qk,kids.length,ck⟩ (.mk kind attr ints words lo hi op kids):=.mk h1 h2 h3 f1 f2 f3 hl hr
set_option maxRecDepth 100000 in
set_option maxHeartbeats 1000000 in
theorem cloneI (q:Option Addr) (c:Nat) (l:List Int) (w:World) (h:SlOf encI 1 w q c l) (hl:l.length≤1000000000000) :
    Calls Tryz.prog 184 #[.slice q l.length c] w fun e w'=>∃ q' c',e=.returned (.slice q' l.length c')∧OwnK encI 3 1 w.heap.size w' q' c' l∧Below w.heap.size w w':=by
  cases q with
  | none =>
    obtain ⟨h0,rfl⟩:=h.1 rfl
    obtain rfl:l=[]:=List.length_eq_zero_iff.1 h0
    have heq:=fun (w:World)=>Lib.run_eql_slice_nil (P:=Tryz.prog) w 23 3 none 0 0 0 0 Tryz.underlying23
    clear h h0
    go_enter Tryz.func184,Tryz.ntmps184
    go_wp2
    go_ret
    exact ⟨none,0,rfl,OwnK.nil _ _,Below.refl _ _⟩
  | some a =>
    have HS:=hide h
    have heq:=fun (w:World)=>Lib.run_eql_slice_nil (P:=Tryz.prog) w 23 3 (some a) l.length c 0 0 Tryz.underlying23
    clear h
    go_enter Tryz.func184,Tryz.ntmps184
    go_wp2_with (at_builtin;refine wpList_app rowI rfl _ _ rfl w.heap.size (some ⟨w.heap.size,0,none⟩) 0 [] (some a) c l 0 l.length l.length rfl rfl (by omega) rfl rfl (OwnK.made _ _ (Nat.le_refl _)) ((uh HS).below ((Below.refl _ _).alloc (Nat.le_refl _) _)).src (by unfold maxLen;omega) (by omega) (by simp) ?_;intro q2 c2 w2 hown2 hb2 _ hg2)
    go_ret
    exact ⟨q2,c2,rfl,by simpa using hown2,((Below.refl _ _).alloc (Nat.le_refl _) _).trans hb2⟩
set_option maxRecDepth 100000 in
set_option maxHeartbeats 1000000 in
theorem cloneS (q:Option Addr) (c:Nat) (l:List ByteArray) (w:World) (h:SlOf encS 1 w q c l) (hl:l.length≤1000000000000) :
    Calls Tryz.prog 183 #[.slice q l.length c] w fun e w'=>∃ q' c',e=.returned (.slice q' l.length c')∧OwnK encS 9 1 w.heap.size w' q' c' l∧Below w.heap.size w w':=by
  cases q with
  | none =>
    obtain ⟨h0,rfl⟩:=h.1 rfl
    obtain rfl:l=[]:=List.length_eq_zero_iff.1 h0
    have heq:=fun (w:World)=>Lib.run_eql_slice_nil (P:=Tryz.prog) w 24 9 none 0 0 0 0 Tryz.underlying24
    clear h h0
    go_enter Tryz.func183,Tryz.ntmps183
    go_wp2
    go_ret
    exact ⟨none,0,rfl,OwnK.nil _ _,Below.refl _ _⟩
  | some a =>
    have HS:=hide h
    have heq:=fun (w:World)=>Lib.run_eql_slice_nil (P:=Tryz.prog) w 24 9 (some a) l.length c 0 0 Tryz.underlying24
    clear h
    go_enter Tryz.func183,Tryz.ntmps183
    go_wp2_with (at_builtin;refine wpList_app rowS rfl _ _ rfl w.heap.size (some ⟨w.heap.size,0,none⟩) 0 [] (some a) c l 0 l.length l.length rfl rfl (by omega) rfl rfl (OwnK.made _ _ (Nat.le_refl _)) ((uh HS).below ((Below.refl _ _).alloc (Nat.le_refl _) _)).src (by unfold maxLen;omega) (by omega) (by simp) ?_;intro q2 c2 w2 hown2 hb2 _ hg2)
    go_ret
    exact ⟨q2,c2,rfl,by simpa using hown2,((Below.refl _ _).alloc (Nat.le_refl _) _).trans hb2⟩
end Go.Proofs.YtencibjmiphinaaGreatDoor
namespace Go.Proofs.YtencibjmiphinaaGreatDoor
open Go.RowKit

theorem depL_snoc {l:List Nd} {k:Nat} {x:Nd} (h:l[k]? = some x):depL (l.take (k + 1))=max (depL (l.take k)) (depN x):=by
  rw [take_snoc_of h,depL_app];simp [depL]
theorem depL_take (l:List Nd) (k:Nat):depL (l.take k)≤depL l:=by
  conv=>rhs;rw [← List.take_append_drop k l,depL_app]
  omega
theorem size_pos (t:Nd):1≤sizeN t:=by cases t;simp only [sizeN];omega
theorem len_size (l:List Nd):l.length≤sizeL l:=by
  induction l with
  | nil=>simp
  | cons x l ih=>have:=size_pos x;simp only [sizeL,List.length_cons];omega
theorem depL_size (l:List Nd):depL l≤sizeL l:=by
  induction l with
  | nil=>simp [depL]
  | cons x l ih=>have:=dep_le x;simp only [depL,sizeL];omega
set_option maxHeartbeats 2000000 in
theorem depth_any:∀ (t:Nd) (v:Nv) (w:World),NdIn w v t→sizeN t≤1000000000 →
    Calls Tryz.prog 36 #[v.val] w fun e w'=>e=.returned (.int .i64 (depN t))∧Below w.heap.size w w':=by
  intro t
  induction t using Nd.ind with
  | h kind attr ints words lo hi op kids ih =>
    intro v w hin hsz
    obtain ⟨qi,ci,qw,cw,qk,ck,rfl,hi1,hw1,hk⟩:=hin.parts
    simp only [sizeN] at hsz
    have hlen:=len_size kids
    have IH:=hide ih
    have HK:=hide hk
    have a0:(kids.length:Int)≤1000000000:=by omega
    have hd2:=depL_size kids
    clear ih hk hin hi1 hw1
    simp only [Nv.val]
    go_enter Tryz.func36,Tryz.ntmps36
    go_wp2
    go_loopw [3,9] (fun d i wr=>∃ k:Nat,k≤kids.length∧i=.int .i64 k∧d=.int .i64 (depL (kids.take k):Nat)∧Below w.heap.size w wr) (fun _ i _=>kids.length - (intOf i).toNat)
    case atStart=>exact ⟨0,by omega,rfl,rfl,(Below.refl _ _).alloc (Nat.le_refl _) _⟩
    case round =>
      obtain ⟨k,hkk,rfl,rfl,hbel⟩:=hrel
      have hd1:=depL_take kids k
      by_cases hlt:k < kids.length
      · obtain ⟨x,hx,hxd⟩:=get_at hlt
        clear hxd
        obtain ⟨b,off,v',hq,hin,g0,g1,g2,g3,g4,g5,g6,g7⟩:=(uh HK).on hx hbel
        subst hq
        have hxm:x ∈ kids:=List.mem_of_getElem? hx
        have hxs:=sizeL_mem hxm
        have hdx:=dep_le x
        have ki0:(0:Int)≤(k:Int):=by omega
        have ki1:(k:Int) < (kids.length:Int):=by omega
        have HS:=hide (depL_snoc hx)
        have hsn:=depL_take kids (k + 1)
        rw [uh HS] at hsn
        have HIN:=hide hin
        have HC:=hide (uh IH x hxm v')
        simp only [Nv.val] at HC
        have HB:=hide hbel
        clear hin hx hbel hxm
        go_wp2_with (go_at_call 36;refine (uh HC _ (by exact (uh HIN).keep ((Below.refl _ _).alloc (Nat.le_refl _) _)) (by omega)).mono ?_;rintro e w1 ⟨rfl,hb1⟩)
        exact ⟨⟨k + 1,by omega,by go_num,congrArg (Value.int .i64) (by rw [uh HS];omega),((uh HB).alloc (uh HB).size _).trans (hb1.mono (by simp;have:=(uh HB).size;omega))⟩,by simp [intOf];omega⟩
      · have ki1:¬ (k:Int) < (kids.length:Int):=by omega
        have HE:=hide (List.take_of_length_le (l:=kids) (i:=k) (by omega))
        go_wp2
        go_ret
        exact ⟨ret_int (by rw [uh HE];simp only [depN];omega),hbel⟩
end Go.Proofs.YtencibjmiphinaaGreatDoor
namespace Go.Proofs.YtencibjmiphinaaGreatDoor
open Go.RowKit Go.Sort

theorem flat_at8 (l:List Nv) (j:Nat) (x:Nv) (h:l[j]? = some x) (c:Nat) (hc:c < 8):(flatK encV 8 l.toArray).toList[j * 8 + c]? = some ((encV x)[c]!):=flat_at h c hc
theorem flat_len (l:List Nv):(flatK encV 8 l.toArray).toList.length=l.length * 8:=by simp
theorem OwnK.cases {B c:Nat} {w:World} {q:Option Addr} {l:List Nv} (h:OwnK encV 29 8 B w q c l):(q=none∧l=[]∧c=0) ∨ ∃ g,q=some ⟨g,0,none⟩∧B≤g∧g < w.heap.size∧∀ o,w.frozen? ⟨g,o,none⟩=false:=by
  rcases h.2 with ⟨h0,hl⟩ | ⟨g,cp,cur,hv,hB,hblk,_⟩
  · injection h0 with h1 h2 h3
    exact Or.inl ⟨h1,List.length_eq_zero_iff.1 h2,h3⟩
  · injection hv with h1
    exact Or.inr ⟨g,h1,hB,(Array.getElem?_eq_some_iff.1 hblk).1,fun o=>frozen_free hblk⟩
theorem OwnK.cells {B g c:Nat} {w:World} {l:List Nv} {j:Nat} {v:Nv} (h:OwnK encV 29 8 B w (some ⟨g,0,none⟩) c l) (hj:l[j]? = some v):w.cell? ⟨g,j * 8,none⟩=some (.int .i64 v.kind)∧w.cell? ⟨g,j * 8 + 1,none⟩=some (.string v.attr)∧w.cell? ⟨g,j * 8 + 2,none⟩=some (.slice v.qi v.ni v.ci)∧w.cell? ⟨g,j * 8 + 3,none⟩=some (.slice v.qw v.nw v.cw)∧w.cell? ⟨g,j * 8 + 4,none⟩=some (.int .i64 v.lo)∧w.cell? ⟨g,j * 8 + 5,none⟩=some (.int .i64 v.hi)∧w.cell? ⟨g,j * 8 + 6,none⟩=some (.int .i64 v.op)∧w.cell? ⟨g,j * 8 + 7,none⟩=some (.slice v.qk v.nk v.ck):=by
  obtain ⟨b,off,hq,_,hc⟩:=h.ls.2.2.2.at hj
  cases hq
  have hh:=fun c hc'=>hc c hc'
  simp only [Nat.zero_add] at hh
  exact ⟨hh 0 (by omega),hh 1 (by omega),hh 2 (by omega),hh 3 (by omega),hh 4 (by omega),hh 5 (by omega),hh 6 (by omega),hh 7 (by omega)⟩
theorem of8' {w:World} {N:Nat} {a0 a1 a2 a3 a4 a5 a6 a7:Value} {T:TypeId} (h:w.heap[N]? = some (.cells #[a0,a1,a2,a3,a4,a5,a6,a7] T (0,0))):w.cell? ⟨N,0,none⟩=some a0∧w.cell? ⟨N,1,none⟩=some a1∧w.cell? ⟨N,2,none⟩=some a2∧w.cell? ⟨N,3,none⟩=some a3∧w.cell? ⟨N,4,none⟩=some a4∧w.cell? ⟨N,5,none⟩=some a5∧w.cell? ⟨N,6,none⟩=some a6∧w.cell? ⟨N,7,none⟩=some a7:=by
  refine ⟨?_, ?_, ?_, ?_, ?_, ?_, ?_, ?_⟩ <;> (unfold World.cell?;simp [h])
theorem box_nw (w:World) (o:Obj):(w.alloc o).heap[w.heap.size]? = some o:=by simp [World.alloc,-World.alloc_eq]
theorem SameUp.set {B:Nat} {a w:World} (h:SameUp B a w) {p:Addr} (hp:p.block < B) (u:Value):SameUp B a (w.setCell p u) :=
  h.trans ⟨by simp,fun b o h1 _=>World.cell?_of_block (w:=w) (a:=⟨b,o,none⟩) (Below.heap_setCell w p u b (by show b ≠ p.block;omega))⟩
end Go.Proofs.YtencibjmiphinaaGreatDoor

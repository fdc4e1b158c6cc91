/- slices.CompactFunc over predicates: of equal ones that stand side by side the first stays. -/
import Derived.Test.YtimklglliffpcaaGreatQCjSort
namespace Go.Proofs.YtimklglliffpcaaGreat
open Go.RowKit Go.Sort Go.Shelf
def yj {A:Nat} {v:World} {g0:Nat} (x:Pz A v g0):List Value:=sc (k7 x)
theorem H5 {α:Type} {d:List α} {k:Nat} (hk:k < d.length) (x:α):d=d.take k ++ [d[k]] ++ d.drop (k + 1)/\d.set k x=d.take k ++ [x] ++ d.drop (k + 1):=by
 constructor
 ·rw [List.append_assoc,List.singleton_append,<- List.drop_eq_getElem_cons hk,List.take_append_drop]
 ·rw [List.set_eq_take_append_cons_drop,if_pos hk];simp
theorem ya {g:Nat} {e:TypeId}:∀ (vs:List Value) (o:Nat) (w:World) (cur:Array Value),w.heap[g]? = some (.cells cur e (0,0))->∃ cur':Array Value,(w.setCells g o vs).heap[g]? = some (.cells cur' e (0,0))/\cur'.size=cur.size/\∀ j,j < o->cur'[j]? = cur[j]?
 | [],_,_,cur,h=>⟨cur,h,rfl,fun _ _=>rfl⟩
 | v :: r,o,w,cur,h=>by
  obtain ⟨cur',h1,h2,h3⟩:=ya r (o + 1) (w.setCell ⟨g,o,none⟩ v) _ (heap_setCell_same w g o cur e v h)
  refine ⟨cur',h1,by simpa using h2,fun j hj=>?_⟩
  rw [h3 j (by omega),Array.getElem?_setIfInBounds,if_neg (by omega)]
theorem zz {B g:Nat} (hg:B<=g):∀ (vs:List Value) (o:Nat) (w:World),Below B w (w.setCells g o vs)
 | [],_,_=>Below.refl _ _
 | v :: r,o,w=>((Below.refl B w).setCell (p:=⟨g,o,none⟩) hg v).trans (zz hg r (o + 1) _)
theorem yx (m:Nat) (h:m<=4611686018427387904):IntKind.i64.wrap (m:Int)=(m:Int):=by
 have e:(2:Int) ^ IntKind.i64.bits=18446744073709551616:=by decide
 have e2:(2:Int) ^ (IntKind.i64.bits - 1)=9223372036854775808:=by decide
 simp [IntKind.wrap,e,e2]
 omega
theorem zq {A:Nat} {v:World} {g0:Nat} (l:List (Pz A v g0)):(flatK yj 6 l.toArray).toList.length=l.length * 6:=by simp [flatK]
theorem Mi {A:Nat} {v:World} {g0:Nat} (x:Pz A v g0):(flatK yj 6 [x].toArray).toList=[.int .i64 (k7 x).kind,.string (k7 x).attr,.slice (k7 x).qi (k7 x).ni (k7 x).ci,.slice (k7 x).qw (k7 x).nw (k7 x).cw,.int .i64 (k7 x).lo,.int .i64 (k7 x).hi]:=by simp [flatK,List.range_succ,yj,sc]
theorem zd1 {A:Nat} {v:World} {g0:Nat} {B g cap:Nat} {w:World} {d:List (Pz A v g0)} (h:OwnK (yj (A:=A) (v:=v) (g0:=g0)) 26 6 B w (some ⟨g,0,none⟩) cap d) {k:Nat} (hk:k < d.length) (x:Pz A v g0) :
  OwnK (yj (A:=A) (v:=v) (g0:=g0)) 26 6 B ((((((w.setCell ⟨g,k * 6,none⟩ (.int .i64 (k7 x).kind)).setCell ⟨g,k * 6 + 1,none⟩ (.string (k7 x).attr)).setCell ⟨g,k * 6 + 2,none⟩ (.slice (k7 x).qi (k7 x).ni (k7 x).ci)).setCell ⟨g,k * 6 + 3,none⟩ (.slice (k7 x).qw (k7 x).nw (k7 x).cw)).setCell ⟨g,k * 6 + 4,none⟩ (.int .i64 (k7 x).lo)).setCell ⟨g,k * 6 + 5,none⟩ (.int .i64 (k7 x).hi)) (some ⟨g,0,none⟩) cap (d.set k x):=by
 obtain ⟨e1,e2⟩:=H5 hk x
 unfold OwnK at *
 have h2:=((((((h.stored (k * 6) (.int .i64 (k7 x).kind)).1.stored (k * 6 + 1) (.string (k7 x).attr)).1.stored (k * 6 + 2) (.slice (k7 x).qi (k7 x).ni (k7 x).ci)).1.stored (k * 6 + 3) (.slice (k7 x).qw (k7 x).nw (k7 x).cw)).1.stored (k * 6 + 4) (.int .i64 (k7 x).lo)).1.stored (k * 6 + 5) (.int .i64 (k7 x).hi)).1
 rw [List.length_set]
 have hl:(flatK yj 6 (d.take k).toArray).toList.length=k * 6:=by rw [zq,List.length_take];congr 1;omega
 have hf:(flatK yj 6 (d.set k x).toArray).toList=(((((((flatK yj 6 d.toArray).toList.set (k * 6) (.int .i64 (k7 x).kind)).set (k * 6 + 1) (.string (k7 x).attr)).set (k * 6 + 2) (.slice (k7 x).qi (k7 x).ni (k7 x).ci)).set (k * 6 + 3) (.slice (k7 x).qw (k7 x).nw (k7 x).cw)).set (k * 6 + 4) (.int .i64 (k7 x).lo)).set (k * 6 + 5) (.int .i64 (k7 x).hi)):=by
  rw [e2]
  conv=>rhs;rw [e1]
  simp only [ma yj 6 (by decide),Mi,List.append_assoc]
  simp [hl]
 rw [hf]
 exact h2
theorem atZ {A:Nat} {v:World} {g0:Nat} {B g cap:Nat} {w:World} {d:List (Pz A v g0)} (h:OwnK (yj (A:=A) (v:=v) (g0:=g0)) 26 6 B w (some ⟨g,0,none⟩) cap d) {k:Nat} {x:Pz A v g0} (hk:d[k]? = some x):w.cell? ⟨g,k * 6,none⟩=some (.int .i64 (k7 x).kind)/\w.cell? ⟨g,k * 6 + 1,none⟩=some (.string (k7 x).attr)/\w.cell? ⟨g,k * 6 + 2,none⟩=some (.slice (k7 x).qi (k7 x).ni (k7 x).ci)/\w.cell? ⟨g,k * 6 + 3,none⟩=some (.slice (k7 x).qw (k7 x).nw (k7 x).cw)/\w.cell? ⟨g,k * 6 + 4,none⟩=some (.int .i64 (k7 x).lo)/\w.cell? ⟨g,k * 6 + 5,none⟩=some (.int .i64 (k7 x).hi):=by
 obtain ⟨b,off,hq,_,hc⟩:=h.ls.2.2.2.at hk
 obtain ⟨rfl,rfl⟩:g=b/\0=off:=by injection hq with hq;injection hq with h1 h2 _;exact ⟨h1,h2⟩
 rw [Nat.zero_add] at hc
 exact ⟨hc 0 (by omega),hc 1 (by omega),hc 2 (by omega),hc 3 (by omega),hc 4 (by omega),hc 5 (by omega)⟩
theorem zar {A:Nat} {v:World} {g0:Nat} {B g cap:Nat} {w:World} {d:List (Pz A v g0)} (h:OwnK (yj (A:=A) (v:=v) (g0:=g0)) 26 6 B w (some ⟨g,0,none⟩) cap d) (j:Nat):w.frozen? ⟨g,j,none⟩=false:=World.ownsRow.frozenAt h j
theorem geZ {A:Nat} {v:World} {g0:Nat} {B g cap:Nat} {w:World} {d:List (Pz A v g0)} (h:OwnK (yj (A:=A) (v:=v) (g0:=g0)) 26 6 B w (some ⟨g,0,none⟩) cap d):B<=g/\g < w.heap.size/\d.length<=cap/\cap<=maxLen:=by
 rcases h.2 with ⟨h1,_⟩ | ⟨g',cap',cur,hv,hB,hblk,hc,hm,_⟩
 ·injection h1 with h1;cases h1
 ·injection hv with h1 h2 h3
  injection h1 with h1;injection h1 with h1
  subst h1 h3
  exact ⟨hB,(Array.getElem?_eq_some_iff.1 hblk).1,hc,hm⟩
def Cu {A:Nat} {v:World} {g0:Nat} (acc:List (Pz A v g0)) (x:Pz A v g0):List (Pz A v g0):=if acc.getLast?.map me=some (me x) then acc else acc ++ [x]
/-- The first of each run of one name. -/
def Av {A:Nat} {v:World} {g0:Nat} (l:List (Pz A v g0)):List (Pz A v g0):=l.foldl Cu []
theorem Am {A:Nat} {v:World} {g0:Nat} (l:List (Pz A v g0)) (x:Pz A v g0):Av (l ++ [x])=Cu (Av l) x:=by unfold Av;rw [List.foldl_append];rfl
theorem Bi {A:Nat} {v:World} {g0:Nat} {l:List (Pz A v g0)} (h:l.length < 2):Av l=l:=by
 match l,h with
 | [],_=>rfl
 | [x],_=>rfl
theorem J3 {A:Nat} {v:World} {g0:Nat} (acc:List (Pz A v g0)) (x:Pz A v g0):(Cu acc x).getLast?.map me=some (me x):=by
 unfold Cu
 split
 ·assumption
 ·simp
theorem Bk {A:Nat} {v:World} {g0:Nat} {l:List (Pz A v g0)} {m:Nat} {y:Pz A v g0} (hy:l[m]? = some y):(Av (l.take (m + 1))).getLast?.map me=some (me y):=by
 rw [jh hy,Am]
 exact J3 _ _
theorem D2 {A:Nat} {v:World} {g0:Nat} {l:List (Pz A v g0)} {m:Nat} {x y:Pz A v g0} (hy:l[m]? = some y) (hx:l[m + 1]? = some x) (h:(me x)=(me y)):Av (l.take (m + 1 + 1))=Av (l.take (m + 1)):=by
 rw [jh hx,Am]
 unfold Cu
 rw [if_pos (by rw [Bk hy,h])]
theorem Es {A:Nat} {v:World} {g0:Nat} {l:List (Pz A v g0)} {m:Nat} {x y:Pz A v g0} (hy:l[m]? = some y) (hx:l[m + 1]? = some x) (h:(me x) ≠ (me y)):Av (l.take (m + 1 + 1))=Av (l.take (m + 1)) ++ [x]:=by
 rw [jh hx,Am]
 unfold Cu
 rw [if_neg (by rw [Bk hy];intro e;exact h (Option.some.inj e).symm)]
/-- What lies ahead of what is cleared. -/
theorem zdn {A:Nat} {v:World} {g0:Nat} {B g cap:Nat} {w:World} {d:List (Pz A v g0)} (h:OwnK (yj (A:=A) (v:=v) (g0:=g0)) 26 6 B w (some ⟨g,0,none⟩) cap d) {k:Nat} (hk:k<=d.length) (vs:List Value) :
    OwnK (yj (A:=A) (v:=v) (g0:=g0)) 26 6 B (w.setCells g (k * 6) vs) (some ⟨g,0,none⟩) cap (d.take k):=by
  rcases h.2 with ⟨h0,_⟩ | ⟨g',cap',cur,hv,hB,hblk,hc,hm,hs,ht⟩
  · injection h0 with h0;cases h0
  · injection hv with h1 h2 h3
    obtain rfl:g=g':=by injection h1 with h1;injection h1
    subst h3
    obtain ⟨cur',b1,b2,b3⟩:=ya vs (k * 6) w cur hblk
    have hl:(d.take k).length=k:=by rw [List.length_take];omega
    refine ⟨by rw [zq],Or.inr ⟨g,cap,cur',rfl,hB,b1,by omega,hm,by rw [b2,hs], ?_⟩⟩
    have e1:(flatK (yj (A:=A) (v:=v) (g0:=g0)) 6 d.toArray).toList=(flatK (yj (A:=A) (v:=v) (g0:=g0)) 6 (d.take k).toArray).toList ++ (flatK (yj (A:=A) (v:=v) (g0:=g0)) 6 (d.drop k).toArray).toList:=by rw [<- ma yj 6 (by decide),List.take_append_drop]
    have e2:(flatK (yj (A:=A) (v:=v) (g0:=g0)) 6 (d.take k).toArray).toList=(flatK (yj (A:=A) (v:=v) (g0:=g0)) 6 d.toArray).toList.take (k * 6):=by rw [e1,List.take_left' (by rw [zq,hl])]
    rw [e2,<- ht,hl,List.take_take,Nat.min_eq_left (by omega)]
    apply List.ext_getElem?
    intro j
    rw [List.getElem?_take,List.getElem?_take]
    split
    · next hj=>rw [Array.getElem?_toList,Array.getElem?_toList,b3 j hj]
    · rfl
theorem za8 (w:World) (ty:TypeId) (g o n c:Nat) (hn:0 < n) (hc:∀ j,j < n * 6->(w.cell? ⟨g,o + j,none⟩).isSome=true) (hf:∀ j,j < n * 6->w.frozen? ⟨g,o + j,none⟩=false) :
  (Builtin.clear_ #[22] ty #[.slice (some ⟨g,o,none⟩) n c]).run Tryz.prog w=.ok (.tuple #[]) (w.setCells g o (Builtin.zeroCells #[.int .i64 0,.string ⟨#[]⟩,.slice none 0 0,.slice none 0 0,.int .i64 0,.int .i64 0] n).toList):=by
 have hl:(Builtin.zeroCells #[.int .i64 0,.string ⟨#[]⟩,.slice none 0 0,.slice none 0 0,.int .i64 0,.int .i64 0] n).toList.length=n * 6:=by rw [Array.length_toList,size_zeroCells];rfl
 have hst:=run_storeCells_cells (P:=Tryz.prog) g o (Builtin.zeroCells #[.int .i64 0,.string ⟨#[]⟩,.slice none 0 0,.slice none 0 0,.int .i64 0,.int .i64 0] n).toList 0 w (by rw [hl];exact hc) (by rw [hl];exact hf) (by
  intro v hv'
  simp only [Builtin.zeroCells,Array.toList_map,List.mem_map] at hv'
  obtain ⟨i,_,rfl⟩:=hv'
  have hm:i % 6=0 ∨ i % 6=1 ∨ i % 6=2 ∨ i % 6=3 ∨ i % 6=4 ∨ i % 6=5:=by omega
  simp only [List.size_toArray,List.length_cons,List.length_nil,Nat.zero_add,Nat.reduceAdd]
  rcases hm with e | e | e | e | e | e <;> rw [e] <;> rfl)
 simp only [Nat.add_zero] at hst
 obtain ⟨m,rfl⟩:∃ m,n=m + 1:=⟨n - 1,by omega⟩
 have hv:=Tryz.zeroValue26
 simp [Builtin.clear_,run_underlying Tryz.underlying22,hv,Value.cells,hst]
end Go.Proofs.YtimklglliffpcaaGreat

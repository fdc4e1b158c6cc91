/- slices.CompactFunc over predicates: of equal ones that stand side by side the first stays. -/
import Derived.Test.YtimklglliffpcaaGreatQCjSort
namespace Go.Proofs.YtimklglliffpcaaGreat
open Go.RowKit Go.Sort Go.Shelf

def encZ {A:Nat} {v:World} {g0:Nat} (x:Pz A v g0):List Value:=encD (fstZ x)
theorem split_at {α:Type} {d:List α} {k:Nat} (hk:k < d.length) (x:α):d=d.take k ++ [d[k]] ++ d.drop (k + 1)∧d.set k x=d.take k ++ [x] ++ d.drop (k + 1):=by
  constructor
  · rw [List.append_assoc,List.singleton_append,← List.drop_eq_getElem_cons hk,List.take_append_drop]
  · rw [List.set_eq_take_append_cons_drop,if_pos hk];simp
theorem row_setCells {g:Nat} {e:TypeId}:∀ (vs:List Value) (o:Nat) (w:World) (cur:Array Value),w.heap[g]? = some (.cells cur e (0,0))→∃ cur':Array Value,(w.setCells g o vs).heap[g]? = some (.cells cur' e (0,0))∧cur'.size=cur.size∧∀ j,j < o→cur'[j]? = cur[j]?
  | [],_,_,cur,h=>⟨cur,h,rfl,fun _ _=>rfl⟩
  | v :: r,o,w,cur,h=>by
    obtain ⟨cur',h1,h2,h3⟩:=row_setCells r (o + 1) (w.setCell ⟨g,o,none⟩ v) _ (heap_setCell_same w g o cur e v h)
    refine ⟨cur',h1,by simpa using h2,fun j hj=>?_⟩
    rw [h3 j (by omega),Array.getElem?_setIfInBounds,if_neg (by omega)]
theorem below_cells {B g:Nat} (hg:B≤g):∀ (vs:List Value) (o:Nat) (w:World),Below B w (w.setCells g o vs)
  | [],_,_=>Below.refl _ _
  | v :: r,o,w=>((Below.refl B w).setCell (p:=⟨g,o,none⟩) hg v).trans (below_cells hg r (o + 1) _)
theorem wrap_nat (m:Nat) (h:m≤4611686018427387904):IntKind.i64.wrap (m:Int)=(m:Int):=by
  have e:(2:Int) ^ IntKind.i64.bits=18446744073709551616:=by decide
  have e2:(2:Int) ^ (IntKind.i64.bits - 1)=9223372036854775808:=by decide
  simp [IntKind.wrap,e,e2]
  omega

theorem flat_lenZ {A:Nat} {v:World} {g0:Nat} (l:List (Pz A v g0)):(flatK encZ 6 l.toArray).toList.length=l.length * 6:=by simp [flatK]
theorem flat_oneZ {A:Nat} {v:World} {g0:Nat} (x:Pz A v g0):(flatK encZ 6 [x].toArray).toList=[.int .i64 (fstZ x).kind,.string (fstZ x).attr,.slice (fstZ x).qi (fstZ x).ni (fstZ x).ci,.slice (fstZ x).qw (fstZ x).nw (fstZ x).cw,.int .i64 (fstZ x).lo,.int .i64 (fstZ x).hi]:=by simp [flatK,List.range_succ,encZ,encD]
theorem putZ {A:Nat} {v:World} {g0:Nat} {B g cap:Nat} {w:World} {d:List (Pz A v g0)} (h:OwnK (encZ (A:=A) (v:=v) (g0:=g0)) 26 6 B w (some ⟨g,0,none⟩) cap d) {k:Nat} (hk:k < d.length) (x:Pz A v g0) :
    OwnK (encZ (A:=A) (v:=v) (g0:=g0)) 26 6 B ((((((w.setCell ⟨g,k * 6,none⟩ (.int .i64 (fstZ x).kind)).setCell ⟨g,k * 6 + 1,none⟩ (.string (fstZ x).attr)).setCell ⟨g,k * 6 + 2,none⟩ (.slice (fstZ x).qi (fstZ x).ni (fstZ x).ci)).setCell ⟨g,k * 6 + 3,none⟩ (.slice (fstZ x).qw (fstZ x).nw (fstZ x).cw)).setCell ⟨g,k * 6 + 4,none⟩ (.int .i64 (fstZ x).lo)).setCell ⟨g,k * 6 + 5,none⟩ (.int .i64 (fstZ x).hi)) (some ⟨g,0,none⟩) cap (d.set k x):=by
  obtain ⟨e1,e2⟩:=split_at hk x
  unfold OwnK at *
  have h2:=((((((h.stored (k * 6) (.int .i64 (fstZ x).kind)).1.stored (k * 6 + 1) (.string (fstZ x).attr)).1.stored (k * 6 + 2) (.slice (fstZ x).qi (fstZ x).ni (fstZ x).ci)).1.stored (k * 6 + 3) (.slice (fstZ x).qw (fstZ x).nw (fstZ x).cw)).1.stored (k * 6 + 4) (.int .i64 (fstZ x).lo)).1.stored (k * 6 + 5) (.int .i64 (fstZ x).hi)).1
  rw [List.length_set]
  have hl:(flatK encZ 6 (d.take k).toArray).toList.length=k * 6:=by rw [flat_lenZ,List.length_take];congr 1;omega
  have hf:(flatK encZ 6 (d.set k x).toArray).toList=(((((((flatK encZ 6 d.toArray).toList.set (k * 6) (.int .i64 (fstZ x).kind)).set (k * 6 + 1) (.string (fstZ x).attr)).set (k * 6 + 2) (.slice (fstZ x).qi (fstZ x).ni (fstZ x).ci)).set (k * 6 + 3) (.slice (fstZ x).qw (fstZ x).nw (fstZ x).cw)).set (k * 6 + 4) (.int .i64 (fstZ x).lo)).set (k * 6 + 5) (.int .i64 (fstZ x).hi)):=by
    rw [e2]
    conv=>rhs;rw [e1]
    simp only [flat_app encZ 6 (by decide),flat_oneZ,List.append_assoc]
    simp [hl]
  rw [hf]
  exact h2
theorem atZ {A:Nat} {v:World} {g0:Nat} {B g cap:Nat} {w:World} {d:List (Pz A v g0)} (h:OwnK (encZ (A:=A) (v:=v) (g0:=g0)) 26 6 B w (some ⟨g,0,none⟩) cap d) {k:Nat} {x:Pz A v g0} (hk:d[k]? = some x):w.cell? ⟨g,k * 6,none⟩=some (.int .i64 (fstZ x).kind)∧w.cell? ⟨g,k * 6 + 1,none⟩=some (.string (fstZ x).attr)∧w.cell? ⟨g,k * 6 + 2,none⟩=some (.slice (fstZ x).qi (fstZ x).ni (fstZ x).ci)∧w.cell? ⟨g,k * 6 + 3,none⟩=some (.slice (fstZ x).qw (fstZ x).nw (fstZ x).cw)∧w.cell? ⟨g,k * 6 + 4,none⟩=some (.int .i64 (fstZ x).lo)∧w.cell? ⟨g,k * 6 + 5,none⟩=some (.int .i64 (fstZ x).hi):=by
  obtain ⟨b,off,hq,_,hc⟩:=h.ls.2.2.2.at hk
  obtain ⟨rfl,rfl⟩:g=b∧0=off:=by injection hq with hq;injection hq with h1 h2 _;exact ⟨h1,h2⟩
  rw [Nat.zero_add] at hc
  exact ⟨hc 0 (by omega),hc 1 (by omega),hc 2 (by omega),hc 3 (by omega),hc 4 (by omega),hc 5 (by omega)⟩
theorem freeZ {A:Nat} {v:World} {g0:Nat} {B g cap:Nat} {w:World} {d:List (Pz A v g0)} (h:OwnK (encZ (A:=A) (v:=v) (g0:=g0)) 26 6 B w (some ⟨g,0,none⟩) cap d) (j:Nat):w.frozen? ⟨g,j,none⟩=false:=World.ownsRow.frozenAt h j
theorem geZ {A:Nat} {v:World} {g0:Nat} {B g cap:Nat} {w:World} {d:List (Pz A v g0)} (h:OwnK (encZ (A:=A) (v:=v) (g0:=g0)) 26 6 B w (some ⟨g,0,none⟩) cap d):B≤g∧g < w.heap.size∧d.length≤cap∧cap≤maxLen:=by
  rcases h.2 with ⟨h1,_⟩ | ⟨g',cap',cur,hv,hB,hblk,hc,hm,_⟩
  · injection h1 with h1;cases h1
  · injection hv with h1 h2 h3
    injection h1 with h1;injection h1 with h1
    subst h1 h3
    exact ⟨hB,(Array.getElem?_eq_some_iff.1 hblk).1,hc,hm⟩
def stepZ {A:Nat} {v:World} {g0:Nat} (acc:List (Pz A v g0)) (x:Pz A v g0):List (Pz A v g0):=if acc.getLast?.map sndZ=some (sndZ x) then acc else acc ++ [x]
/-- The first of each run of one name. -/
def cptZ {A:Nat} {v:World} {g0:Nat} (l:List (Pz A v g0)):List (Pz A v g0):=l.foldl stepZ []
theorem cptZ_snoc {A:Nat} {v:World} {g0:Nat} (l:List (Pz A v g0)) (x:Pz A v g0):cptZ (l ++ [x])=stepZ (cptZ l) x:=by unfold cptZ;rw [List.foldl_append];rfl
theorem cptZ_short {A:Nat} {v:World} {g0:Nat} {l:List (Pz A v g0)} (h:l.length < 2):cptZ l=l:=by
  match l,h with
  | [],_=>rfl
  | [x],_=>rfl
theorem stepZ_last {A:Nat} {v:World} {g0:Nat} (acc:List (Pz A v g0)) (x:Pz A v g0):(stepZ acc x).getLast?.map sndZ=some (sndZ x):=by
  unfold stepZ
  split
  · assumption
  · simp
theorem last_takeZ {A:Nat} {v:World} {g0:Nat} {l:List (Pz A v g0)} {m:Nat} {y:Pz A v g0} (hy:l[m]? = some y):(cptZ (l.take (m + 1))).getLast?.map sndZ=some (sndZ y):=by
  rw [take_snoc_of hy,cptZ_snoc]
  exact stepZ_last _ _
theorem cptZ_same {A:Nat} {v:World} {g0:Nat} {l:List (Pz A v g0)} {m:Nat} {x y:Pz A v g0} (hy:l[m]? = some y) (hx:l[m + 1]? = some x) (h:(sndZ x)=(sndZ y)):cptZ (l.take (m + 1 + 1))=cptZ (l.take (m + 1)):=by
  rw [take_snoc_of hx,cptZ_snoc]
  unfold stepZ
  rw [if_pos (by rw [last_takeZ hy,h])]
theorem cptZ_diff {A:Nat} {v:World} {g0:Nat} {l:List (Pz A v g0)} {m:Nat} {x y:Pz A v g0} (hy:l[m]? = some y) (hx:l[m + 1]? = some x) (h:(sndZ x) ≠ (sndZ y)):cptZ (l.take (m + 1 + 1))=cptZ (l.take (m + 1)) ++ [x]:=by
  rw [take_snoc_of hx,cptZ_snoc]
  unfold stepZ
  rw [if_neg (by rw [last_takeZ hy];intro e;exact h (Option.some.inj e).symm)]
/-- What lies ahead of what is cleared. -/
theorem cutZ {A:Nat} {v:World} {g0:Nat} {B g cap:Nat} {w:World} {d:List (Pz A v g0)} (h:OwnK (encZ (A:=A) (v:=v) (g0:=g0)) 26 6 B w (some ⟨g,0,none⟩) cap d) {k:Nat} (hk:k≤d.length) (vs:List Value) :
    OwnK (encZ (A:=A) (v:=v) (g0:=g0)) 26 6 B (w.setCells g (k * 6) vs) (some ⟨g,0,none⟩) cap (d.take k):=by
  rcases h.2 with ⟨h0,_⟩ | ⟨g',cap',cur,hv,hB,hblk,hc,hm,hs,ht⟩
  · injection h0 with h0;cases h0
  · injection hv with h1 h2 h3
    obtain rfl:g=g':=by injection h1 with h1;injection h1
    subst h3
    obtain ⟨cur',b1,b2,b3⟩:=row_setCells vs (k * 6) w cur hblk
    have hl:(d.take k).length=k:=by rw [List.length_take];omega
    refine ⟨by rw [flat_lenZ],Or.inr ⟨g,cap,cur',rfl,hB,b1,by omega,hm,by rw [b2,hs], ?_⟩⟩
    have e1:(flatK (encZ (A:=A) (v:=v) (g0:=g0)) 6 d.toArray).toList=(flatK (encZ (A:=A) (v:=v) (g0:=g0)) 6 (d.take k).toArray).toList ++ (flatK (encZ (A:=A) (v:=v) (g0:=g0)) 6 (d.drop k).toArray).toList:=by rw [← flat_app encZ 6 (by decide),List.take_append_drop]
    have e2:(flatK (encZ (A:=A) (v:=v) (g0:=g0)) 6 (d.take k).toArray).toList=(flatK (encZ (A:=A) (v:=v) (g0:=g0)) 6 d.toArray).toList.take (k * 6):=by rw [e1,List.take_left' (by rw [flat_lenZ,hl])]
    rw [e2,← ht,hl,List.take_take,Nat.min_eq_left (by omega)]
    apply List.ext_getElem?
    intro j
    rw [List.getElem?_take,List.getElem?_take]
    split
    · next hj=>rw [Array.getElem?_toList,Array.getElem?_toList,b3 j hj]
    · rfl
theorem clearD (w:World) (ty:TypeId) (g o n c:Nat) (hn:0 < n) (hc:∀ j,j < n * 6→(w.cell? ⟨g,o + j,none⟩).isSome=true) (hf:∀ j,j < n * 6→w.frozen? ⟨g,o + j,none⟩=false) :
    (Builtin.clear_ #[22] ty #[.slice (some ⟨g,o,none⟩) n c]).run Tryz.prog w=.ok (.tuple #[]) (w.setCells g o (Builtin.zeroCells #[.int .i64 0,.string ⟨#[]⟩,.slice none 0 0,.slice none 0 0,.int .i64 0,.int .i64 0] n).toList):=by
  have hl:(Builtin.zeroCells #[.int .i64 0,.string ⟨#[]⟩,.slice none 0 0,.slice none 0 0,.int .i64 0,.int .i64 0] n).toList.length=n * 6:=by rw [Array.length_toList,size_zeroCells];rfl
  have hst:=run_storeCells_cells (P:=Tryz.prog) g o (Builtin.zeroCells #[.int .i64 0,.string ⟨#[]⟩,.slice none 0 0,.slice none 0 0,.int .i64 0,.int .i64 0] n).toList 0 w (by rw [hl];exact hc) (by rw [hl];exact hf) (by
    intro v hv'
    simp only [Builtin.zeroCells,Array.toList_map,List.mem_map] at hv'
    obtain ⟨i,_,rfl⟩:=hv'
    have hm:i % 6=0 ∨ i % 6=1 ∨ i % 6=2 ∨ i % 6=3 ∨ i % 6=4 ∨ i % 6=5:=by omega
    simp only [List.size_toArray,List.length_cons,List.length_nil,Nat.zero_add,Nat.reduceAdd]
    rcases hm with e | e | e | e | e | e <;> rw [e] <;> rfl)
  simp only [Nat.add_zero] at hst
  obtain ⟨m,rfl⟩:∃ m,n=m + 1:=⟨n - 1,by omega⟩
  have hv:=Tryz.zeroValue26
  simp [Builtin.clear_,run_underlying Tryz.underlying22,hv,Value.cells,hst]

end Go.Proofs.YtimklglliffpcaaGreat

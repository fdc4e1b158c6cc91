/- A list of events in memory. -/
import Derived.Test.YtimklglliffpcaaGreatQZah
import Derived.Test.YtimklglliffpcaaGreatQZOp
import Derived.Test.YtimklglliffpcaaGreatQCjMust
namespace Go.Proofs.YtimklglliffpcaaGreat
open Go.RowKit Go.Sort

/-- A list of events in memory. -/
def EvsOf (w:World) (q:Option Addr) (c:Nat) (evs:List (List Pr)):Prop:=∃ us:List (Option Addr × Nat × Nat),SlOf encQ 1 w q c us∧us.length=evs.length∧∀ (j:Nat) (u:Option Addr × Nat × Nat) (ev:List Pr),us[j]? = some u→evs[j]? = some ev→u.2.1=ev.length∧SlOf encP 4 w u.1 u.2.2 ev
theorem EvsOf.below {w w':World} {q:Option Addr} {c:Nat} {evs:List (List Pr)} (h:EvsOf w q c evs) (hb:Below w.heap.size w w'):EvsOf w' q c evs:=by
  obtain ⟨us,h1,h2,h3⟩:=h
  exact ⟨us,h1.below hb,h2,fun j u ev hj he=>⟨(h3 j u ev hj he).1,(h3 j u ev hj he).2.below hb⟩⟩
theorem EvsOf.at {w:World} {q:Option Addr} {c:Nat} {evs:List (List Pr)} {j:Nat} {ev:List Pr} (h:EvsOf w q c evs) (hj:evs[j]? = some ev) :
    ∃ b off q1 c1,q=some ⟨b,off,none⟩∧b < w.heap.size∧SlOf encP 4 w q1 c1 ev∧w.cell? ⟨b,off + j,none⟩=some (.slice q1 ev.length c1):=by
  obtain ⟨us,h1,h2,h3⟩:=h
  have hl:j < evs.length:=(List.getElem?_eq_some_iff.1 hj).1
  obtain ⟨u,hu,_⟩:=get_at (l:=us) (k:=j) (by omega)
  obtain ⟨b,off,hq,hb,hc⟩:=h1.2.2.2.at hu
  obtain ⟨e1,e2⟩:=h3 j u ev hu hj
  have h0:=hc 0 (by omega)
  rw [Nat.mul_one,Nat.add_zero] at h0
  refine ⟨b,off,u.1,u.2.2,hq,hb,e2, ?_⟩
  rw [← e1];exact h0
end Go.Proofs.YtimklglliffpcaaGreat
namespace Go.Proofs.YtimklglliffpcaaGreat
open Go.RowKit Go.Sort

theorem bulk_mem {H:Type} {D:List (DataW H)} {d:DataW H} (h:d ∈ D):Rows.uptoBulk d≤Rows.uptoBulkAll D:=by
  induction D with
  | nil=>simp at h
  | cons a D ih =>
    simp only [Rows.uptoBulkAll]
    rcases List.mem_cons.1 h with rfl | h
    · omega
    · have:=ih h;omega
theorem open_prss {H:Type} {enc:TypeId × Value→H} {W:World} {base:Nat} {sp:Nat→Bool} {held:Bool} {fuel:Nat} {v:Value} {x:DataW H × List MemPlace} (h:DataW.trod enc Tryz.prog W base sp held fuel 62 [v]=some x) :
    ∃ q c evs,v=.slice q evs.length c∧EvsOf W q c evs∧evs.length≤Rows.uptoBulk x.1∧∀ ev ∈ evs,ev.length≤Rows.uptoBulk x.1:=by
  obtain ⟨qk,ck,vs,e2,s3,g3⟩:=open_slD (enc':=encQ) (P:=fun u d=>∃ ev:List Pr,u.2.1=ev.length∧SlOf encP 4 W u.1 u.2.2 ev∧ev.length≤Rows.uptoBulk d) Tryz.underlying62 Tryz.cells40 (by decide) (fun m hm cs x hx hl=>by
    obtain ⟨u,rfl⟩:=List.length_eq_one_iff.1 hl
    obtain ⟨q,c,l,rfl,h1,h2⟩:=open_prsD hx
    refine ⟨(q,l.length,c),fun c' hc=>?_,l,rfl,h1,h2⟩
    obtain rfl:c'=0:=by omega
    rfl) h
  rcases g3 with rfl | ⟨D,E,hD,hlD,hP⟩
  · exact ⟨qk,ck,[],e2,⟨[],s3,rfl,fun j v t hj _=>by simp at hj⟩,by simp,fun ev h=>by simp at h⟩
  · have hth:∀ i,i < vs.length→∃ t:List Pr,∀ u d,vs[i]? = some u→D[i]? = some d→u.2.1=t.length∧SlOf encP 4 W u.1 u.2.2 t∧t.length≤Rows.uptoBulk d:=fun i hi=>by
      obtain ⟨t,ht⟩:=hP i vs[i] (D[i]'(by omega)) (List.getElem?_eq_getElem hi) (List.getElem?_eq_getElem (by omega))
      exact ⟨t,fun v d hv hd=>by
        rw [List.getElem?_eq_getElem hi] at hv
        rw [List.getElem?_eq_getElem (by omega)] at hd
        cases hv;cases hd;exact ht⟩
    obtain ⟨f,hf⟩:=Go.Deep.choose_lt hth
    have hb:Rows.uptoBulkAll D≤Rows.uptoBulk x.1:=by rw [hD];simp only [Rows.uptoBulk];omega
    refine ⟨qk,ck,(List.range vs.length).map f,by simpa using e2,⟨vs,s3,by simp,fun j v t hj ht=>?_⟩, ?_, ?_⟩
    · obtain ⟨hjl,rfl⟩:=range_at ht
      have:=hf j hjl v (D[j]'(by omega)) hj (List.getElem?_eq_getElem (by omega))
      exact ⟨this.1,this.2.1⟩
    · have:=bulk_len D
      simp
      omega
    · intro ev hev
      obtain ⟨j,hj,rfl⟩:=List.mem_map.1 hev
      have hjl:=List.mem_range.1 hj
      have:=(hf j hjl vs[j] (D[j]'(by omega)) (List.getElem?_eq_getElem hjl) (List.getElem?_eq_getElem (by omega))).2.2
      have:=bulk_mem (List.getElem_mem (l:=D) (n:=j) (by omega))
      omega
end Go.Proofs.YtimklglliffpcaaGreat
namespace Go.Proofs.YtimklglliffpcaaGreat
open Go.RowKit Go.Sort

def ltW (l:Lt):Nat:=l.attr.size + l.ints.length + wordsWt l.words + 2
def ltsW:List Lt→Nat
  | []=>0
  | l :: ls=>ltW l + ltsW ls
theorem Tryz.cells64:Tryz.prog.cellsOf 64=7:=by kernel_rfl
theorem Tryz.cells29b:Tryz.prog.cellsOf 26=6:=by kernel_rfl
theorem Tryz.cells4b:Tryz.prog.cellsOf 4=1:=by kernel_rfl
theorem trod_twoL {H:Type} {enc:TypeId × Value→H} {P:Program} {w:World} {base:Nat} {spare:Nat→Bool} {held:Bool} {t:TypeId} {f0 f1:Field} {fuel:Nat} {cs:List Value} {x:DataW H × List MemPlace} (ht:P.underlying t=some (.struct #[f0,f1])) (h:DataW.trod enc P w base spare held fuel t cs=some x) :
    ∃ y0 y1 n,n < fuel∧x.1=.agg [y0.1,y1.1]∧DataW.trod enc P w base spare held n f0.type ((cs.drop f0.offset).take (P.cellsOf f0.type))=some y0∧DataW.trod enc P w base spare held n f1.type ((cs.drop f1.offset).take (P.cellsOf f1.type))=some y1:=by
  obtain ⟨xs,n,hn,rfl,hl,hlen,hf⟩:=DataW.trod_struct ht h
  match xs,hlen with
  | [y0,y1],_=>exact ⟨y0,y1,n,by omega,by simp,by simpa using hf 0 f0 rfl,by simpa using hf 1 f1 rfl⟩
set_option maxRecDepth 100000 in
theorem open_lit {H:Type} {enc:TypeId × Value→H} {W:World} {base:Nat} {sp:Nat→Bool} {held:Bool} {fuel:Nat} {cs:List Value} {x:DataW H × List MemPlace} (h:DataW.trod enc Tryz.prog W base sp held fuel 64 cs=some x) (hl:cs.length=7) :
    ∃ u:Lv,cs=encL u∧∃ l:Lt,LitIn W u l∧ltW l≤Rows.uptoBulk x.1:=by
  obtain ⟨y0,y1,n,hn,hx,h0,h1⟩:=trod_twoL Tryz.underlying64 h
  match cs,hl with
  | [c0,c1,c2,c3,c4,c5,c6],_ =>
    simp only [Tryz.cells29b,Tryz.cells4b,List.drop,List.take] at h0 h1
    obtain ⟨kind,attr,qi,ci,ints,qw,cw,words,lo,hi,e0,s1,s2,hb⟩:=open_sixD h0 rfl
    obtain ⟨ng,e1,_⟩:=DataW.trod_bool Tryz.underlying4 h1
    simp only [List.cons.injEq,and_true] at e0 e1
    obtain ⟨rfl,rfl,rfl,rfl,rfl,rfl⟩:=e0
    subst e1
    refine ⟨⟨kind,attr,qi,ints.length,ci,qw,words.length,cw,lo,hi,ng⟩,rfl,⟨kind,attr,ints,words,lo,hi,ng⟩,⟨rfl,rfl,rfl,rfl,rfl,rfl,rfl,s1,s2⟩, ?_⟩
    rw [hx]
    have:=bulk_one y1.1
    simp only [Rows.uptoBulk,Rows.uptoBulkAll,ltW]
    omega
theorem bulk_lts {H:Type}:∀ (l:List Lt) (D:List (DataW H)),D.length=l.length→(∀ (j:Nat) y d,l[j]? = some y→D[j]? = some d→ltW y≤Rows.uptoBulk d)→ltsW l≤Rows.uptoBulkAll D:=by
  intro l
  induction l with
  | nil=>intro D _ _;simp [ltsW]
  | cons x l ih =>
    intro D hl hP
    cases D with
    | nil=>simp at hl
    | cons d D =>
      have h0:=hP 0 x d rfl rfl
      have h1:=ih D (by simpa using hl) (fun j y e hj he=>hP (j + 1) y e (by simpa using hj) (by simpa using he))
      simp only [ltsW,Rows.uptoBulkAll]
      omega
instance:Inhabited Lt:=⟨⟨0,⟨#[]⟩,[],[],0,0,false⟩⟩
theorem open_lits {H:Type} {enc:TypeId × Value→H} {W:World} {base:Nat} {sp:Nat→Bool} {held:Bool} {fuel:Nat} {v:Value} {x:DataW H × List MemPlace} (h:DataW.trod enc Tryz.prog W base sp held fuel 37 [v]=some x) :
    ∃ q c ls,v=.slice q ls.length c∧LitsOf W q c ls∧1 + ltsW ls≤Rows.uptoBulk x.1:=by
  obtain ⟨qk,ck,vs,e2,s3,g3⟩:=open_slD (enc':=encL) (P:=fun u d=>∃ l:Lt,LitIn W u l∧ltW l≤Rows.uptoBulk d) Tryz.underlying37 Tryz.cells64 (by decide) (fun m hm cs x hx hl=>by
    obtain ⟨u,hv,l,h1,h2⟩:=open_lit hx hl
    refine ⟨u,fun c hc=>?_,l,h1,h2⟩
    rw [hv]
    have hlen:c < (encL u).length:=by simp [encL];omega
    rw [List.getElem?_eq_getElem hlen,getElem!_pos (encL u) c hlen]) h
  rcases g3 with rfl | ⟨D,E,hD,hlD,hP⟩
  · exact ⟨qk,ck,[],e2,⟨[],s3,rfl,fun j v t hj _=>by simp at hj⟩,by have:=bulk_one x.1;simp only [ltsW];omega⟩
  · have hth:∀ i,i < vs.length→∃ t:Lt,∀ v d,vs[i]? = some v→D[i]? = some d→LitIn W v t∧ltW t≤Rows.uptoBulk d:=fun i hi=>by
      obtain ⟨t,ht⟩:=hP i vs[i] (D[i]'(by omega)) (List.getElem?_eq_getElem hi) (List.getElem?_eq_getElem (by omega))
      exact ⟨t,fun v d hv hd=>by
        rw [List.getElem?_eq_getElem hi] at hv
        rw [List.getElem?_eq_getElem (by omega)] at hd
        cases hv;cases hd;exact ht⟩
    obtain ⟨f,hf⟩:=Go.Deep.choose_lt hth
    refine ⟨qk,ck,(List.range vs.length).map f,by simpa using e2,⟨vs,s3,by simp,fun j v t hj ht=>?_⟩, ?_⟩
    · obtain ⟨hjl,rfl⟩:=range_at ht
      exact (hf j hjl v (D[j]'(by omega)) hj (List.getElem?_eq_getElem (by omega))).1
    · have:=bulk_lts ((List.range vs.length).map f) D (by simpa using hlD) (fun j y d hj hd=>by
        obtain ⟨hjl,rfl⟩:=range_at hj
        exact (hf j hjl vs[j] d (List.getElem?_eq_getElem hjl) hd).2)
      rw [hD]
      simp only [Rows.uptoBulk]
      omega
theorem ltsW_mem:∀ {ls:List Lt} {l:Lt},l ∈ ls→ltW l≤ltsW ls:=by
  intro ls
  induction ls with
  | nil=>intro l h;simp at h
  | cons a ls ih =>
    intro l h
    simp only [ltsW]
    rcases List.mem_cons.1 h with rfl | h
    · omega
    · have:=ih h;omega
end Go.Proofs.YtimklglliffpcaaGreat
namespace Go.Proofs.YtimklglliffpcaaGreat
open Go.RowKit Go.Sort

theorem lts_len (ls:List Lt):ls.length≤ltsW ls:=by
  induction ls with
  | nil=>exact Nat.le_refl _
  | cons l ls ih=>simp only [ltsW,ltW,List.length_cons];omega
theorem lts_bounds {ls:List Lt} (h:ltsW ls≤1048576):SmallL ls∧NamesFit ls∧litBound ls∧ls.length≤1048576:=by
  have hb:∀ l ∈ ls,l.attr.size≤1048576∧l.ints.length≤1048576∧l.words.length≤1048576:=fun l hl=>by
    have h1:=ltsW_mem hl
    have h2:=words_len l.words
    unfold ltW at h1
    omega
  refine ⟨fun l hl=>?_,fun l hl=>?_,fun l hl=>?_,Nat.le_trans (lts_len ls) h⟩
  · obtain ⟨_,h2,h3⟩:=hb l hl
    exact ⟨Nat.le_trans h2 (by decide),Nat.le_trans h3 (by decide)⟩
  · obtain ⟨h1,_⟩:=hb l hl
    unfold maxLen
    omega
  · obtain ⟨_,h2,h3⟩:=hb l hl
    omega
end Go.Proofs.YtimklglliffpcaaGreat

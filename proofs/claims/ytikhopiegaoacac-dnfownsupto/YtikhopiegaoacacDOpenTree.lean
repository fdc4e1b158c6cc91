/- How trees among the arguments are opened; how much they hold. -/
import Derived.Test.YtikhopiegaoacacDOpen
import Derived.Test.YtikhopiegaoacacRows
namespace Go.Proofs.Ytikhopiegaoacac
open Go.ChangeShapes Go.WideShapes Go.ChangeAt Go.RowKit Go.Joins

instance:Inhabited Nd:=⟨.mk 0 ⟨#[]⟩ [] [] 0 0 0 []⟩
theorem bulk_one {H:Type} (d:DataW H):1≤Rows.uptoBulk d:=by
  cases d with
  | lit l=>cases l <;> simp [Rows.uptoBulk]
  | _=>simp [Rows.uptoBulk]
theorem bulk_len {H:Type} (l:List (DataW H)):l.length≤Rows.uptoBulkAll l:=by
  induction l with
  | nil=>simp [Rows.uptoBulkAll]
  | cons x r ih=>have:=bulk_one x;simp only [Rows.uptoBulkAll,List.length_cons];omega
theorem bulk_words {H:Type}:∀ (l:List ByteArray) (D:List (DataW H)),D.length=l.length→(∀ (j:Nat) y d,l[j]? = some y→D[j]? = some d→1 + y.size≤Rows.uptoBulk d)→wordsWt l≤Rows.uptoBulkAll D:=by
  intro l
  induction l with
  | nil=>intro D _ _;simp [wordsWt]
  | cons x l ih =>
    intro D hl hP
    cases D with
    | nil=>simp at hl
    | cons d D =>
      have h0:=hP 0 x d rfl rfl
      have h1:=ih D (by simpa using hl) (fun j y e hj he=>hP (j + 1) y e (by simpa using hj) (by simpa using he))
      simp only [wordsWt,Rows.uptoBulkAll]
      omega
theorem bulk_kids {H:Type}:∀ (l:List Nd) (D:List (DataW H)),D.length=l.length→(∀ (j:Nat) y d,l[j]? = some y→D[j]? = some d→wtN y≤Rows.uptoBulk d)→wtL l≤Rows.uptoBulkAll D:=by
  intro l
  induction l with
  | nil=>intro D _ _;simp [wtL]
  | cons x l ih =>
    intro D hl hP
    cases D with
    | nil=>simp at hl
    | cons d D =>
      have h0:=hP 0 x d rfl rfl
      have h1:=ih D (by simpa using hl) (fun j y e hj he=>hP (j + 1) y e (by simpa using hj) (by simpa using he))
      simp only [wtL,Rows.uptoBulkAll]
      omega
set_option maxRecDepth 100000 in
/-- A list among the arguments, with what is known of each element's data. -/
theorem open_slD {α:Type} [Inhabited α] {enc':α→List Value} {k:Nat} {t e:TypeId} (ht:Try.prog.underlying t=some (.slice e)) (hc:Try.prog.cellsOf e=k) (hk:0 < k) {H:Type} {enc:TypeId × Value→H} {W:World} {base:Nat} {sp:Nat→Bool} {held:Bool} {fuel:Nat} {P:α→DataW H→Prop}
    (hdec:∀ (n:Nat),n < fuel→∀ (cs:List Value) (x:DataW H × List MemPlace),DataW.trod enc Try.prog W base sp held n e cs=some x→cs.length=k→∃ y:α,(∀ c,c < k→cs[c]? = some ((enc' y)[c]!))∧P y x.1)
    {v:Value} {x:DataW H × List MemPlace} (h:DataW.trod enc Try.prog W base sp held fuel t [v]=some x) :
    ∃ (q:Option Addr) (c:Nat) (l:List α),v=.slice q l.length c∧SlOf enc' k W q c l∧(l=[] ∨ ∃ D E,x.1=.slice D E∧D.length=l.length∧∀ (j:Nat) y d,l[j]? = some y→D[j]? = some d→P y d):=by
  rcases DataW.trod_slice ht h with ⟨h1,_⟩ | ⟨a',len,cap,elems,rest,n,hfu,h1,hx,hb,hlc,hcm,hlen,hel,_,_⟩
  · simp only [List.cons.injEq,and_true] at h1
    exact ⟨Option.none,0,[],h1,SlOf.none _,Or.inl rfl⟩
  · simp only [List.cons.injEq,and_true] at h1
    by_cases h0:len=0
    · subst h0
      exact ⟨some a',cap,[],h1,⟨(fun h=>by cases h),Nat.zero_le _,hcm,LsOf.nil _ _⟩,Or.inl rfl⟩
    rw [hc] at hel
    have hth:∀ i,i < len→∃ y:α,(∀ c,c < k→W.cell? ((a'.add (i * k)).add c)=some ((enc' y)[c]!))∧∀ d,elems[i]? = some d→P y d.1:=fun i hi=>by
      have h3:=hel i hi
      obtain ⟨d,hd⟩:∃ d,elems[i]? = some d:=⟨elems[i]'(by omega),List.getElem?_eq_getElem (by omega)⟩
      rw [hd] at h3
      obtain ⟨cs',hcs,htr⟩:=Option.bind_eq_some_iff.1 h3
      obtain ⟨_,hl,hcell⟩:=World.cells?_some hcs
      obtain ⟨y,hy,hP⟩:=hdec n (by omega) _ _ htr hl
      exact ⟨y,fun c hc'=>by rw [hcell c (by omega)];exact hy c hc',fun d' hd'=>by rw [hd] at hd';cases hd';exact hP⟩
    obtain ⟨f,hf⟩:=Go.Deep.choose_lt hth
    have hc0:=(hf 0 (by omega)).1 0 hk
    have e0:(a'.add (0 * k)).add 0=a':=by simp [Addr.add]
    rw [e0] at hc0
    obtain ⟨hs,hb'⟩:=cell_spot hc0
    obtain ⟨b,off,spot⟩:=a'
    simp only at hs hb'
    subst hs
    refine ⟨some ⟨b,off,Option.none⟩,cap,(List.range len).map f,by simpa using h1,⟨(fun h=>by cases h),by simpa using hlc,hcm,fun _=>⟨b,off,rfl,hb',fun j u hj=>?_⟩⟩,Or.inr ⟨_,_,congrArg Prod.fst hx,by simp [hlen],fun j y d hj hd=>?_⟩⟩
    · obtain ⟨y,hy,rfl⟩:=flat_get hk hj
      obtain ⟨hjl,rfl⟩:=range_at hy
      have h7:=(hf (j / k) (by omega)).1 (j % k) (Nat.mod_lt _ hk)
      simp only [add_plain] at h7
      rw [Nat.add_assoc,show j / k * k + j % k=j from by rw [Nat.mul_comm];exact Nat.div_add_mod j k] at h7
      exact h7
    · obtain ⟨hjl,rfl⟩:=range_at hj
      rw [List.getElem?_map] at hd
      obtain ⟨d',hd',rfl⟩:=Option.map_eq_some_iff.1 hd
      exact (hf j hjl).2 d' hd'
theorem trod_three {H:Type} {enc:TypeId × Value→H} {P:Program} {w:World} {base:Nat} {spare:Nat→Bool} {held:Bool} {t:TypeId} {f0 f1 f2:Field} {fuel:Nat} {cs:List Value} {x:DataW H × List MemPlace} (ht:P.underlying t=some (.struct #[f0,f1,f2])) (h:DataW.trod enc P w base spare held fuel t cs=some x) :
    ∃ y0 y1 y2 n,n < fuel∧x.1=.agg [y0.1,y1.1,y2.1]∧DataW.trod enc P w base spare held n f0.type ((cs.drop f0.offset).take (P.cellsOf f0.type))=some y0∧DataW.trod enc P w base spare held n f1.type ((cs.drop f1.offset).take (P.cellsOf f1.type))=some y1∧DataW.trod enc P w base spare held n f2.type ((cs.drop f2.offset).take (P.cellsOf f2.type))=some y2:=by
  obtain ⟨xs,n,hn,rfl,hl,hlen,hf⟩:=DataW.trod_struct ht h
  match xs,hlen with
  | [y0,y1,y2],_=>exact ⟨y0,y1,y2,n,by omega,by simp,by simpa using hf 0 f0 rfl,by simpa using hf 1 f1 rfl,by simpa using hf 2 f2 rfl⟩
theorem Try.cells26:Try.prog.cellsOf 26=1:=by kernel_rfl
theorem Try.cells28:Try.prog.cellsOf 28=8:=by kernel_rfl
set_option maxRecDepth 100000 in
/-- The six cells of a predicate, and how much they hold. -/
theorem open_sixD {H:Type} {enc:TypeId × Value→H} {W:World} {base:Nat} {sp:Nat→Bool} {held:Bool} {fuel:Nat} {cs:List Value} {x:DataW H × List MemPlace} (h:DataW.trod enc Try.prog W base sp held fuel 25 cs=some x) (hl:cs.length=6) :
    ∃ (kind:Int) (attr:ByteArray) (qi:Option Addr) (ci:Nat) (ints:List Int) (qw:Option Addr) (cw:Nat) (words:List ByteArray) (lo hi:Int),cs=[.int .i64 kind,.string attr,.slice qi ints.length ci,.slice qw words.length cw,.int .i64 lo,.int .i64 hi] ∧
      SlOf encI 1 W qi ci ints∧SlOf encS 1 W qw cw words∧attr.size + ints.length + wordsWt words + 1≤Rows.uptoBulk x.1:=by
  obtain ⟨y0,y1,y2,y3,y4,y5,n,hx,h0,h1,h2,h3,h4,h5⟩:=trod_six Try.underlying25 h
  match cs,hl with
  | [c0,c1,c2,c3,c4,c5],_ =>
    simp only [Try.cells3,Try.cells9,Try.cells22,Try.cells23,List.drop,List.take] at h0 h1 h2 h3 h4 h5
    obtain ⟨kind,e0,_,_⟩:=DataW.trod_int Try.underlying3 h0
    obtain ⟨attr,e1,d1,_⟩:=DataW.trod_string Try.underlying9 h1
    obtain ⟨qi,ci,ints,e2,s2,g2⟩:=open_slD (enc':=encI) (P:=fun _ _=>True) Try.underlying22 Try.cells3 (by decide) (fun n _ cs x hx hl=>by obtain ⟨y,hy⟩:=dec_int n cs x hx hl;exact ⟨y,hy,trivial⟩) h2
    obtain ⟨qw,cw,words,e3,s3,g3⟩:=open_slD (enc':=encS) (P:=fun y d=>1 + y.size≤Rows.uptoBulk d) Try.underlying23 Try.cells9 (by decide) (fun n _ cs x hx hl=>by
      obtain ⟨a,e0,d0,_⟩:=DataW.trod_string Try.underlying9 hx
      refine ⟨a,fun c hc=>?_, ?_⟩
      · have h0:c=0:=(by omega)
        rw [h0,e0];rfl
      · rw [d0];simp only [Rows.uptoBulk,Array.length_toList];have:a.data.size=a.size:=rfl;omega) h3
    obtain ⟨lo,e4,_,_⟩:=DataW.trod_int Try.underlying3 h4
    obtain ⟨hi,e5,_,_⟩:=DataW.trod_int Try.underlying3 h5
    simp only [List.cons.injEq,and_true] at e0 e1 e4 e5
    refine ⟨kind,attr,qi,ci,ints,qw,cw,words,lo,hi,by rw [e0,e1,e2,e3,e4,e5],s2,s3, ?_⟩
    have b1:attr.size + 1=Rows.uptoBulk y1.1:=by rw [d1];simp only [Rows.uptoBulk,Array.length_toList];rfl
    have b2:ints.length≤Rows.uptoBulk y2.1:=by
      rcases g2 with rfl | ⟨D,E,hD,hl,_⟩
      · simp
      · rw [hD];have:=bulk_len D;simp only [Rows.uptoBulk];omega
    have b3:wordsWt words≤Rows.uptoBulk y3.1:=by
      rcases g3 with rfl | ⟨D,E,hD,hl,hP⟩
      · simp [wordsWt]
      · rw [hD];have:=bulk_words words D hl hP;simp only [Rows.uptoBulk];omega
    rw [hx]
    simp only [Rows.uptoBulk,Rows.uptoBulkAll]
    omega
set_option maxRecDepth 100000 in
/-- The eight cells of a node: a tree lies there, and holds no more than the bulk. -/
theorem open_node {H:Type} {enc:TypeId × Value→H} {W:World} {base:Nat} {sp:Nat→Bool} {held:Bool}:∀ (fuel:Nat) (cs:List Value) (x:DataW H × List MemPlace),DataW.trod enc Try.prog W base sp held fuel 28 cs=some x→cs.length=8 →
    ∃ v:Nv,cs=encV v∧∃ t:Nd,NdIn W v t∧wtN t≤Rows.uptoBulk x.1:=by
  intro fuel
  induction fuel using Nat.strongRecOn with
  | ind fuel ih =>
    intro cs x h hl
    obtain ⟨y0,y1,y2,n,hn,hx,h0,h1,h2⟩:=trod_three Try.underlying28 h
    match cs,hl with
    | [c0,c1,c2,c3,c4,c5,c6,c7],_ =>
      simp only [Try.cells3,Try.cells25,Try.cells26,List.drop,List.take] at h0 h1 h2
      obtain ⟨kind,attr,qi,ci,ints,qw,cw,words,lo,hi,e0,s1,s2,b0⟩:=open_sixD h0 rfl
      obtain ⟨op,e1,_,_⟩:=DataW.trod_int Try.underlying3 h1
      obtain ⟨qk,ck,vs,e2,s3,g3⟩:=open_slD (enc':=encV) (P:=fun v d=>∃ t:Nd,NdIn W v t∧wtN t≤Rows.uptoBulk d) Try.underlying26 Try.cells28 (by decide) (fun m hm cs x hx hl=>by
        obtain ⟨v,hv,t,ht,hw⟩:=ih m (by omega) cs x hx hl
        refine ⟨v,fun c hc=>?_,t,ht,hw⟩
        rw [hv]
        have hlen:c < (encV v).length:=by simp [encV];omega
        rw [List.getElem?_eq_getElem hlen,getElem!_pos (encV v) c hlen]) h2
      have hkids:∃ kids:List Nd,kids.length=vs.length∧(∀ (j:Nat) v t,vs[j]? = some v→kids[j]? = some t→NdIn W v t)∧wtL kids≤Rows.uptoBulk y2.1:=by
        rcases g3 with rfl | ⟨D,E,hD,hlD,hP⟩
        · exact ⟨[],rfl,fun j v t hj _=>by simp at hj,by simp [wtL]⟩
        · have hth:∀ i,i < vs.length→∃ t:Nd,∀ v d,vs[i]? = some v→D[i]? = some d→NdIn W v t∧wtN t≤Rows.uptoBulk d:=fun i hi=>by
            obtain ⟨t,ht⟩:=hP i vs[i] (D[i]'(by omega)) (List.getElem?_eq_getElem hi) (List.getElem?_eq_getElem (by omega))
            exact ⟨t,fun v d hv hd=>by
              rw [List.getElem?_eq_getElem hi] at hv
              rw [List.getElem?_eq_getElem (by omega)] at hd
              cases hv;cases hd;exact ht⟩
          obtain ⟨f,hf⟩:=Go.Deep.choose_lt hth
          refine ⟨(List.range vs.length).map f,by simp,fun j v t hj ht=>?_, ?_⟩
          · obtain ⟨hjl,rfl⟩:=range_at ht
            exact (hf j hjl v (D[j]'(by omega)) hj (List.getElem?_eq_getElem (by omega))).1
          · have:=bulk_kids ((List.range vs.length).map f) D (by simpa using hlD) (fun j y d hj hd=>by
              obtain ⟨hjl,rfl⟩:=range_at hj
              exact (hf j hjl vs[j] d (List.getElem?_eq_getElem hjl) hd).2)
            rw [hD]
            simp only [Rows.uptoBulk]
            omega
      obtain ⟨kids,hkl,hkn,hkw⟩:=hkids
      simp only [List.cons.injEq,and_true] at e0 e1
      obtain ⟨rfl,rfl,rfl,rfl,rfl,rfl⟩:=e0
      refine ⟨⟨kind,attr,qi,ints.length,ci,qw,words.length,cw,lo,hi,op,qk,kids.length,ck⟩,by rw [e1,e2,hkl];rfl,.mk kind attr ints words lo hi op kids,.mk s1 s2 s3 hkl.symm hkn, ?_⟩
      rw [hx]
      simp only [wtN,Rows.uptoBulk,Rows.uptoBulkAll]
      have:=bulk_one y1.1
      omega
end Go.Proofs.Ytikhopiegaoacac

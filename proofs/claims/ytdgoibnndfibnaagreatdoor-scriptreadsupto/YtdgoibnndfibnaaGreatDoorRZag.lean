/- Scripts and their texts, and what is read of a text. Plain. -/
import Derived.Test.YtdgoibnndfibnaaGreatDoorRZaf
import Derived.Test.YtdgoibnndfibnaaGreatDoorRZab
namespace Go.Proofs.YtdgoibnndfibnaaGreatDoor
/-- A config: eight numbers. -/
structure Cfg where
  d:Int
  c:Int
  s:Int
  t:Int
  h:Int
  q:Int
  w:Int
  u:Int
deriving DecidableEq
def Cfg.l (c:Cfg):List Int:=[c.d,c.c,c.s,c.t,c.h,c.q,c.w,c.u]
structure Scr where
 cfg:Cfg
 attrs:List (ByteArray × Int)
 ops:List Sop
def cfgB (c:Cfg):Bs:=wConfig ++ numsB c.l
def attrB (a:ByteArray × Int):Bs:=wAttr ++ 32 :: Lb a.1 ++ 32 :: kindW a.2
/-- Layer 2 takes these attributes. -/
def AtsOk (l:List (ByteArray × Int)):Prop:=l.length<=64/\l.all Sc.atOk=true/\(l.map Sc.nmA).Nodup
structure ScrOk (s:Scr):Prop where
 attrs:AtsOk s.attrs
 len:s.ops.length<=4096
 ops:s.ops.all opOk=true
/-- Lines with a line end behind each. -/
def endsB (ls:List Bs):Bs:=ls.flatMap fun l=>l ++ [10]
def scrLs (s:Scr):List Bs:=cfgB s.cfg :: (s.attrs.map attrB ++ s.ops.map lineB)
def scrB (s:Scr):Bs:=endsB (scrLs s)
/-- The numbers of a script are ints. -/
structure ScrI (s:Scr):Prop where
  cfg:∀ n ∈ s.cfg.l,I64 n
  ops:∀ o ∈ s.ops,SopI o
def numAt (l:Bs):Int:=atoiN (nextW l).1
def rdCfg (l:Bs):Cfg :=
 let l1:=(nextW l).2;let l2:=(nextW l1).2;let l3:=(nextW l2).2;let l4:=(nextW l3).2
 let l5:=(nextW l4).2;let l6:=(nextW l5).2;let l7:=(nextW l6).2
 ⟨numAt l,numAt l1,numAt l2,numAt l3,numAt l4,numAt l5,numAt l6,numAt l7⟩
def rdAttr (l:Bs):ByteArray × Int:=(⟨(nextW l).1.toArray⟩,kindOfW kindW 2 (nextW (nextW l).2).1)
open Classical in
/-- A line more. -/
noncomputable def addS (s:Scr) (number:Nat) (line:Bs):Option Scr :=
  if number=1 then (if cfgB (rdCfg (nextW line).2)=line then some ⟨rdCfg (nextW line).2,s.attrs,s.ops⟩ else none)
  else if (nextW line).1=wAttr then
    (if s.ops.length=0/\AtsOk (s.attrs ++ [rdAttr (nextW line).2])/\attrB (rdAttr (nextW line).2)=line then some ⟨s.cfg,s.attrs ++ [rdAttr (nextW line).2],s.ops⟩ else none)
  else (if s.ops.length + 1<=4096/\opOk (rdOp (nextW line).1 (nextW line).2)=true/\lineB (rdOp (nextW line).1 (nextW line).2)=line then some ⟨s.cfg,s.attrs,s.ops ++ [rdOp (nextW line).1 (nextW line).2]⟩ else none)
/-- A text cut at its first line end. -/
def cut10:Bs->Option (Bs × Bs)
  | []=>none
  | c :: r=>if c=10 then some ([],r) else (cut10 r).map fun x=>(c :: x.1,x.2)
/-- What is read: the line's number that is wrong, 0 for none, and the script. -/
noncomputable def readGo:Nat->Nat->Scr->Bs->Nat × Option Scr
  | 0,number,_,_=>(number,none)
  | k + 1,number,s,text =>
    if number ≠ 1/\text=[] then (0,some s)
    else match cut10 text with
      | none=>(number,none)
      | some x=>match addS s number x.1 with
        | none=>(number,none)
        | some s'=>readGo k (number + 1) s' x.2
def scr0:Scr:=⟨⟨0,0,0,0,0,0,0,0⟩,[],[]⟩
noncomputable def readS (text:Bs):Nat × Option Scr:=readGo (text.length + 2) 1 scr0 text
theorem cut10_len:∀ {l:Bs} {x:Bs × Bs},cut10 l=some x->l=x.1 ++ 10 :: x.2/\NoEnd x.1
 | [],x,h=>by simp [cut10] at h
 | c :: r,x,h=>by
  unfold cut10 at h
  split at h
  ·next hc=>cases h;subst hc;exact ⟨rfl,fun _ h=>by simp at h⟩
  ·next hc =>
   obtain ⟨y,hy,rfl⟩:=Option.map_eq_some_iff.1 h
   obtain ⟨h1,h2⟩:=cut10_len hy
   exact ⟨by rw [h1];rfl,h2.cons hc⟩
theorem cut10_at {a r:Bs} (h:NoEnd a):cut10 (a ++ 10 :: r)=some (a,r):=by
 induction a with
 | nil=>simp [cut10]
 | cons c a ih =>
  rw [List.cons_append,cut10,if_neg (h c (by simp)),ih fun d hd=>h d (by simp [hd])]
  rfl
/-- How far is read hangs not on the count of steps. -/
theorem readGo_more:∀ (k j n:Nat) (s:Scr) (t:Bs),t.length + 2<=k->k<=j->readGo j n s t=readGo k n s t
  | 0,_,_,_,_,h,_=>by omega
  | k + 1,0,_,_,_,_,h=>by omega
  | k + 1,j + 1,n,s,t,h,hj=>by
    unfold readGo
    split
    · rfl
    · cases hc:cut10 t with
      | none=>rfl
      | some x =>
        simp only
        cases addS s n x.1 with
        | none=>rfl
        | some s' =>
          simp only
          obtain ⟨e,_⟩:=cut10_len hc
          have:t.length=x.1.length + (x.2.length + 1):=by rw [e];simp
          exact readGo_more k j (n + 1) s' x.2 (by omega) (by omega)
noncomputable def readFrom (n:Nat) (s:Scr) (t:Bs):Nat × Option Scr:=readGo (t.length + 2) n s t
theorem readFrom_end {n:Nat} (h:n ≠ 1) (s:Scr):readFrom n s []=(0,some s):=by
 unfold readFrom readGo
 rw [if_pos ⟨h,rfl⟩]
theorem readFrom_none {n:Nat} {s:Scr} {t:Bs} (h:¬ (n ≠ 1/\t=[])) (hc:cut10 t=none):readFrom n s t=(n,none):=by
 unfold readFrom readGo
 rw [if_neg h,hc]
theorem readFrom_bad {n:Nat} {s:Scr} {t:Bs} {x:Bs × Bs} (hc:cut10 t=some x) (ha:addS s n x.1=none):readFrom n s t=(n,none):=by
 have h:¬ (n ≠ 1/\t=[]):=by rintro ⟨_,rfl⟩;simp [cut10] at hc
 unfold readFrom readGo
 rw [if_neg h,hc]
 simp only
 rw [ha]
theorem readFrom_step {n:Nat} {s s':Scr} {t:Bs} {x:Bs × Bs} (hc:cut10 t=some x) (ha:addS s n x.1=some s'):readFrom n s t=readFrom (n + 1) s' x.2:=by
 have h:¬ (n ≠ 1/\t=[]):=by rintro ⟨_,rfl⟩;simp [cut10] at hc
 have e:=(cut10_len hc).1
 have:t.length=x.1.length + (x.2.length + 1):=by rw [e];simp
 unfold readFrom
 rw [show t.length + 2=(t.length + 1) + 1 from rfl,readGo,if_neg h,hc]
 simp only
 rw [ha]
 simp only
 exact readGo_more _ _ _ _ _ (Nat.le_refl _) (by omega)
theorem rdCfg_back {c:Cfg} (h:∀ n ∈ c.l,I64 n):rdCfg (nextW (cfgB c)).2=c:=by
 have hw:Pass false wConfig false:=bare_pass (by intro c hc;revert c;decide)
 have e:cfgB c=wConfig ++ tailW (c.l.map Go.Lib.itoa):=rfl
 rw [e,nextW_words hw]
 obtain ⟨d,c1,s,t,h1,q,w,u⟩:=c
 simp only [Cfg.l,List.map_cons,List.map_nil] at *
 have hn:∀ n:Int,I64 n->atoiN (Go.Lib.itoa n)=n:=fun n hn=>atoiN_itoa n hn.1 hn.2
 unfold rdCfg
 simp only [numAt,next_cons (itoa_pass _)]
 simp only [List.mem_cons,List.not_mem_nil,or_false,forall_eq_or_imp,forall_eq] at h
 obtain ⟨a1,a2,a3,a4,a5,a6,a7,a8⟩:=h
 rw [hn _ a1,hn _ a2,hn _ a3,hn _ a4,hn _ a5,hn _ a6,hn _ a7,hn _ a8]
theorem atOk_parts {a:ByteArray × Int} (h:Sc.atOk a=true):Sc.nameOk a.1=true/\(a.2=1 ∨ a.2=2):=by
 unfold Sc.atOk at h
 simpa using h
theorem rdAttr_back {a:ByteArray × Int} (h:Sc.atOk a=true):(nextW (attrB a)).1=wAttr/\rdAttr (nextW (attrB a)).2=a:=by
 obtain ⟨h1,h2⟩:=atOk_parts h
 have hb:Bare (Lb a.1):=fun c hc=>by
  obtain ⟨x,y,z,_⟩:=name_char h1 c hc
  exact ⟨x,y,z⟩
 have hk:Bare (kindW a.2):=by rcases h2 with e | e <;> rw [e] <;> (intro c hc;revert c;decide)
 have hw:Pass false wAttr false:=bare_pass (by intro c hc;revert c;decide)
 have e:attrB a=wAttr ++ tailW [Lb a.1,kindW a.2]:=by simp [attrB,tailW]
 rw [e,nextW_words hw]
 refine ⟨rfl, ?_⟩
 unfold rdAttr
 simp only
 rw [next_cons (bare_pass hb)]
 simp only
 rw [next_last (bare_pass hk)]
 simp only
 have:kindOfW kindW 2 (kindW a.2)=a.2:=by rcases h2 with e | e <;> rw [e] <;> decide
 rw [this]
 simp [Lb]
theorem cfgB_end (c:Cfg):NoEnd (cfgB c):=NoEnd.app (by intro c hc;revert c;decide) (tailW_end fun w hw=>by
 obtain ⟨n,_,rfl⟩:=List.mem_map.1 hw
 exact itoa_end n)
theorem attrB_end {a:ByteArray × Int} (h:Sc.atOk a=true):NoEnd (attrB a):=by
 obtain ⟨h1,h2⟩:=atOk_parts h
 have hk:NoEnd (kindW a.2):=by rcases h2 with e | e <;> rw [e] <;> (intro c hc;revert c;decide)
 exact NoEnd.app (NoEnd.app (by intro c hc;revert c;decide) (NoEnd.cons (by decide) fun c hc=>(name_char h1 c hc).2.2.2.2)) (NoEnd.cons (by decide) hk)
theorem opW_attr {k:Int}:opW k ≠ wAttr:=by
 unfold opW
 split
 ·decide
 ·split
  ·decide
  ·split
   ·decide
   ·split
    ·decide
    ·split
     ·decide
     ·split
      ·decide
      ·split <;> decide
theorem AtsOk.pre {a b:List (ByteArray × Int)} (h:AtsOk (a ++ b)):AtsOk a:=by
 obtain ⟨h1,h2,h3⟩:=h
 rw [List.length_append] at h1
 rw [List.all_append,Bool.and_eq_true] at h2
 rw [List.map_append] at h3
 exact ⟨by omega,h2.1,(List.nodup_append.1 h3).1⟩
theorem read_ops:∀ (l:List Sop) (n:Nat) (s:Scr) (_:1 < n) (_:s.ops.length + l.length<=4096) (_:l.all opOk=true) (_:∀ o ∈ l,SopI o),readFrom n s (endsB (l.map lineB))=(0,some ⟨s.cfg,s.attrs,s.ops ++ l⟩)
 | [],n,s,hn,_,_,_=>by
  show readFrom n s []=_
  rw [readFrom_end (by omega),List.append_nil]
 | o :: l,n,s,hn,hl,ho,hI=>by
  rw [List.all_cons,Bool.and_eq_true] at ho
  simp only [List.length_cons] at hl
  have e:endsB ((o :: l).map lineB)=lineB o ++ 10 :: endsB (l.map lineB):=by simp [endsB]
  have hb:=rdOp_back ho.1 (hI o (by simp))
  have ha:addS s n (lineB o)=some ⟨s.cfg,s.attrs,s.ops ++ [o]⟩:=by
   unfold addS
   rw [if_neg (by omega),if_neg (by rw [lineB_next];exact opW_attr),hb,if_pos ⟨by omega,ho.1,rfl⟩]
  rw [e,readFrom_step (cut10_at (lineB_end ho.1)) ha]
  show readFrom (n + 1) _ (endsB (l.map lineB))=_
  rw [read_ops l (n + 1) ⟨s.cfg,s.attrs,s.ops ++ [o]⟩ (by omega) (by simp only [List.length_append,List.length_singleton];omega) ho.2 fun x hx=>hI x (by simp [hx])]
  simp
theorem read_attrs:∀ (l:List (ByteArray × Int)) (n:Nat) (s:Scr) (t:Bs) (_:1 < n) (_:s.ops.length=0) (_:AtsOk (s.attrs ++ l)),readFrom n s (endsB (l.map attrB) ++ t)=readFrom (n + l.length) ⟨s.cfg,s.attrs ++ l,s.ops⟩ t
 | [],n,s,t,_,_,_=>by
  show readFrom n s t=_
  simp
 | a :: l,n,s,t,hn,hl,ha=>by
  have e:endsB ((a :: l).map attrB) ++ t=attrB a ++ 10 :: (endsB (l.map attrB) ++ t):=by simp [endsB]
  have ha1:AtsOk (s.attrs ++ [a]):=by
   have:s.attrs ++ a :: l=(s.attrs ++ [a]) ++ l:=by simp
   rw [this] at ha
   exact ha.pre
  have hok:Sc.atOk a=true:=(List.all_eq_true.1 ha1.2.1) a (by simp)
  obtain ⟨h1,h2⟩:=rdAttr_back hok
  have hs:addS s n (attrB a)=some ⟨s.cfg,s.attrs ++ [a],s.ops⟩:=by
   unfold addS
   rw [if_neg (by omega),if_pos h1,h2,if_pos ⟨hl,ha1,rfl⟩]
  rw [e,readFrom_step (cut10_at (attrB_end hok)) hs]
  show readFrom (n + 1) _ (endsB (l.map attrB) ++ t)=_
  rw [read_attrs l (n + 1) ⟨s.cfg,s.attrs ++ [a],s.ops⟩ t (by omega) hl (by simpa using ha)]
  simp only [List.length_cons,List.append_assoc,List.singleton_append]
  rw [show n + 1 + l.length=n + (l.length + 1) by omega]
/-- A script in form is read back from its text. -/
theorem read_scr {s:Scr} (h:ScrOk s) (hI:ScrI s):readS (scrB s)=(0,some s):=by
  have e:scrB s=cfgB s.cfg ++ 10 :: (endsB (s.attrs.map attrB) ++ endsB (s.ops.map lineB)):=by simp [scrB,scrLs,endsB]
  have ha:addS scr0 1 (cfgB s.cfg)=some ⟨s.cfg,[],[]⟩:=by
    unfold addS
    rw [if_pos rfl,rdCfg_back hI.cfg,if_pos rfl];rfl
  show readFrom 1 scr0 (scrB s)=_
  rw [e,readFrom_step (cut10_at (cfgB_end _)) ha,read_attrs s.attrs 2 _ _ (by omega) rfl (by simpa using h.attrs),read_ops s.ops _ _ (by omega) (by simpa using h.len) h.ops hI.ops]
  simp
/-- What a line that is taken says. -/
theorem addS_some {s s':Scr} {n:Nat} {line:Bs} (h:addS s n line=some s') :
    (n=1/\cfgB s'.cfg=line/\s'.attrs=s.attrs/\s'.ops=s.ops) ∨
    (n ≠ 1/\s.ops.length=0/\s'.cfg=s.cfg/\s'.ops=s.ops/\AtsOk s'.attrs/\∃ a,s'.attrs=s.attrs ++ [a]/\attrB a=line) ∨
    (n ≠ 1/\s'.cfg=s.cfg/\s'.attrs=s.attrs/\∃ o,s'.ops=s.ops ++ [o]/\lineB o=line/\opOk o=true/\s'.ops.length<=4096):=by
  unfold addS at h
  split at h
  · next h1 =>
    split at h
    · next h2=>cases h;exact Or.inl ⟨h1,h2,rfl,rfl⟩
    · cases h
  · next h1 =>
    split at h
    · split at h
      · next h2=>cases h;exact Or.inr (Or.inl ⟨h1,h2.1,rfl,rfl,h2.2.1,_,rfl,h2.2.2⟩)
      · cases h
    · split at h
      · next h2=>cases h;exact Or.inr (Or.inr ⟨h1,rfl,rfl,_,rfl,h2.2.2,h2.2.1,by simpa using h2.1⟩)
      · cases h
/-- The text so far, of a script that is read line by line. -/
def preB (n:Nat) (s:Scr):Bs:=if n=1 then [] else scrB s
theorem preB_add {s s':Scr} {n:Nat} {line:Bs} (hn:1<=n) (h0:n=1->s=scr0) (h:addS s n line=some s'):preB (n + 1) s'=preB n s ++ (line ++ [10]):=by
 unfold preB
 rw [if_neg (by omega)]
 rcases addS_some h with ⟨h1,h2,h3,h4⟩ | ⟨h1,h2,h3,h4,_,a,h5,h6⟩ | ⟨h1,h3,h4,o,h5,h6,_⟩
 ·rw [if_pos h1]
  rw [h0 h1] at h3 h4
  unfold scrB scrLs
  rw [h2,h3,h4]
  simp [endsB,scr0]
 ·rw [if_neg h1]
  have:s.ops=[]:=List.length_eq_zero_iff.1 h2
  unfold scrB scrLs
  rw [h3,h4,h5,this]
  simp [endsB,h6]
 ·rw [if_neg h1]
  unfold scrB scrLs
  rw [h3,h4,h5]
  simp [endsB,h6]
theorem ok_add {s s':Scr} {n:Nat} {line:Bs} (h0:n=1->s=scr0) (hs:n ≠ 1->ScrOk s) (h:addS s n line=some s'):ScrOk s':=by
 rcases addS_some h with ⟨h1,h2,h3,h4⟩ | ⟨h1,h2,h3,h4,h7,a,h5,h6⟩ | ⟨h1,h3,h4,o,h5,h6,h7,h8⟩
 ·rw [h0 h1] at h3 h4
  exact ⟨by rw [h3];exact ⟨by simp [scr0],by simp [scr0],by simp [scr0]⟩,by rw [h4];simp [scr0],by rw [h4];simp [scr0]⟩
 ·obtain ⟨a1,a2,a3⟩:=hs h1
  exact ⟨h7,by rw [h4];exact a2,by rw [h4];exact a3⟩
 ·obtain ⟨a1,a2,a3⟩:=hs h1
  exact ⟨by rw [h4];exact a1,h8,by rw [h5,List.all_append];simp [a3,h7]⟩
/-- What is read is written so. -/
theorem read_sound:∀ (k n:Nat) (s s2:Scr) (t:Bs),t.length < k->1<=n->(n=1->s=scr0)->(n ≠ 1->ScrOk s)->readFrom n s t=(0,some s2)->preB n s ++ t=scrB s2/\ScrOk s2
  | 0,_,_,_,_,h,_,_,_,_=>by omega
  | k + 1,n,s,s2,t,hk,hn,h0,hs,h=>by
    by_cases he:n ≠ 1/\t=[]
    · obtain ⟨h1,rfl⟩:=he
      rw [readFrom_end h1] at h
      cases h
      refine ⟨?_,hs h1⟩
      unfold preB
      rw [if_neg h1,List.append_nil]
    · cases hc:cut10 t with
      | none=>rw [readFrom_none he hc] at h;cases h
      | some x =>
        cases ha:addS s n x.1 with
        | none=>rw [readFrom_bad hc ha] at h;cases h
        | some s' =>
          rw [readFrom_step hc ha] at h
          obtain ⟨e,_⟩:=cut10_len hc
          have hl:t.length=x.1.length + (x.2.length + 1):=by rw [e];simp
          obtain ⟨h1,h2⟩:=read_sound k (n + 1) s' s2 x.2 (by omega) (by omega) (by omega) (fun _=>ok_add h0 hs ha) h
          refine ⟨?_,h2⟩
          rw [preB_add hn h0 ha] at h1
          rw [<- h1]
          conv=>lhs;rw [e]
          simp
theorem readS_sound {t:Bs} {s:Scr} (h:readS t=(0,some s)):scrB s=t/\ScrOk s:=by
 obtain ⟨h1,h2⟩:=read_sound (t.length + 1) 1 scr0 s t (by omega) (by omega) (fun _=>rfl) (fun h=>absurd rfl h) h
 exact ⟨h1.symm,h2⟩
end Go.Proofs.YtdgoibnndfibnaaGreatDoor
namespace Go.Proofs.YtdgoibnndfibnaaGreatDoor
open Go.RowKit
theorem Tryz.builderSize:(Tryz.prog.info? 100).map (·.size)=some 2:=by kernel_rfl
theorem Tryz.builderLies:liesAt Tryz.prog Tryz.prog.depth 100 (2 / Tryz.prog.cellsOf 100) 0 100 1=true:=by kernel_rfl
theorem Tryz.byteInfo:(Tryz.prog.info? 5).map (fun i=>(i.zero,i.size,i.bytes))=some (some (.int .u8 0),1,1):=by kernel_rfl
set_option maxHeartbeats 1000000 in
set_option maxRecDepth 100000 in
theorem check_fresh (b:Nat) (w:World) (h0:w.cell? ⟨b,0,none⟩=some (.pointer none)) (hsh:w.shape? b=some (100,2)) (hfz:w.frozen? ⟨b,0,none⟩=false) :
  Calls Tryz.prog 85 #[.pointer (some ⟨b,0,none⟩)] w fun e w'=>e=.returned (.tuple #[])/\w'=w.setCell ⟨b,0,none⟩ (.pointer (some ⟨b,0,none⟩)):=by
 obtain ⟨j,hj,hjs⟩:=Option.map_eq_some_iff.1 Tryz.builderSize
 go_enter Tryz.func85,Tryz.ntmps85
 go_wp2
 rw [Lib.run_to_unsafe w ⟨b,0,none⟩ Tryz.underlying98 Tryz.underlying147 hj (by rw [hjs];decide) hsh (Nat.zero_lt_succ 1)]
 simp only [Result.andThen]
 rw [Oper.upon_value]
 go_wp2
 rw [run_callFunc_extern Tryz.func113 (by kernel_rfl) (by kernel_rfl) (by kernel_rfl) (e:=Extern.AbiNoEscape.same) (by kernel_rfl)]
 rw [Lib.run_noEscape]
 simp only [Result.andThen]
 rw [Oper.upon_value]
 go_wp2
 rw [Lib.run_from_unsafe w ⟨b,0,none⟩ Tryz.underlying147 Tryz.underlying98 hj hsh Tryz.builderLies]
 simp only [Result.andThen]
 rw [Oper.upon_value]
 go_wp2
 go_end0
 exact ⟨rfl,rfl⟩
set_option maxHeartbeats 1000000 in
set_option maxRecDepth 100000 in
theorem check_used (b:Nat) (w:World) (h0:w.cell? ⟨b,0,none⟩=some (.pointer (some ⟨b,0,none⟩))) :
  Calls Tryz.prog 85 #[.pointer (some ⟨b,0,none⟩)] w fun e w'=>e=.returned (.tuple #[])/\w'=w:=by
 obtain ⟨j,hj,_⟩:=Option.map_eq_some_iff.1 Tryz.builderSize
 go_enter Tryz.func85,Tryz.ntmps85
 go_wp2
 rw [Lib.run_neq_ptr_same w _ Tryz.underlying98 hj]
 go_wp2
 go_end0
 exact ⟨rfl,rfl⟩
/-- The builder in block b, its memory from B on, holds the bytes l. -/
def Bld (B b:Nat) (l:List UInt8) (w:World):Prop:=Lib.IsBuilderF 100 5 B b (Lib.byteCells l) w
/-- What a builder's call leaves as it was. -/
def Kept (B b:Nat) (w w':World):Prop:=Below B w w'/\Lib.OthersKept 5 (some b) w w'
theorem Kept.refl (B b:Nat) (w:World):Kept B b w w:=⟨Below.refl _ _,Lib.OthersKept.refl _ _ _⟩
theorem Kept.trans {B b:Nat} {x y z:World} (h:Kept B b x y) (k:Kept B b y z):Kept B b x z:=⟨h.1.trans k.1,h.2.trans k.2⟩
theorem copyCheck_any (B b:Nat) (bs:List Value) (w:World) (h:Lib.IsBuilderF 100 5 B b bs w) :
  Calls Tryz.prog 85 #[.pointer (some ⟨b,0,none⟩)] w fun e w'=>e=.returned (.tuple #[])/\Lib.BuilderAtF 100 5 B b (.pointer (some ⟨b,0,none⟩)) bs w'/\Kept B b w w':=by
 rcases h with h | h
 ·refine (check_fresh b w h.cell0 h.shape h.frozen0).mono ?_
  rintro e w' ⟨rfl,rfl⟩
  exact ⟨rfl,h.used _,(Below.refl B w).setCell (p:=⟨b,0,none⟩) h.1 _,(Lib.OthersKept.refl _ _ w).setCell ⟨b,0,none⟩ rfl _⟩
 ·refine (check_used b w h.cell0).mono ?_
  rintro e w' ⟨rfl,rfl⟩
  exact ⟨rfl,h,Kept.refl _ _ _⟩
theorem heap_lt {w:World} {b:Nat} {o:Obj} (h:w.heap[b]? = some o):b < w.heap.size:=(Array.getElem?_eq_some_iff.1 h).1
set_option maxHeartbeats 2000000 in
set_option maxRecDepth 100000 in
theorem writeString_any (B b:Nat) (l:List UInt8) (s:ByteArray) (w:World) (h:Bld B b l w) (hlen:l.length + s.size<=140737488355328) (hBw:B<=w.heap.size) :
  Calls Tryz.prog 58 #[.pointer (some ⟨b,0,none⟩),.string s] w fun e w'=>e=.returned (.tuple #[.int .i64 s.size,.nilIface])/\Bld B b (l ++ s.data.toList) w'/\Kept B b w w':=by
 obtain ⟨i0,hi,hz0,hz1,hz2⟩:=info_parts Tryz.byteInfo
 have hcc:=copyCheck_any B b _ w h
 clear h
 go_enter Tryz.func58,Tryz.ntmps58
 go_wp2_with (go_at_call 85;refine hcc.mono ?_)
 rintro e w1 ⟨rfl,⟨hB,v,hbk,hown,hne⟩,hk1⟩
 have c0:w1.cell? ⟨b,0,none⟩=some (.pointer (some ⟨b,0,none⟩)):=by rw [Lib.cell_of_heap hbk];rfl
 have c1:w1.cell? ⟨b,1,none⟩=some v:=by rw [Lib.cell_of_heap hbk];rfl
 have hsz:=hk1.1.size
 go_wp2_with (at_builtin;refine Lib.wpList_append_own_stringF _ rfl _ _ 67 9 rfl B 5 i0 Tryz.underlying67 Tryz.underlying9 hi hz0 hz1 hz2 _ _ _ rfl hown s rfl ?c3 ?c4 ?c5 ?_)
 case c3=>unfold maxLen;simp [Lib.byteCells];omega
 case c4=>simp [Lib.byteCells];omega
 case c5=>omega
 intro v' w2 hown' hgrow _
 have hlt:=heap_lt hbk
 have hb2:w2.heap[b]? = some (.cells #[.pointer (some ⟨b,0,none⟩),v] 100 (0,0)):=by
  rw [hgrow.block b hlt (fun e=>hne e.symm)]
  exact hbk
 have d0:w2.cell? ⟨b,0,none⟩=some (.pointer (some ⟨b,0,none⟩)):=by rw [Lib.cell_of_heap hb2];rfl
 have d1:w2.cell? ⟨b,1,none⟩=some v:=by rw [Lib.cell_of_heap hb2];rfl
 have f1:w2.frozen? ⟨b,1,none⟩=false:=Lib.frozen_of_heap hb2 1
 obtain ⟨ao,n',cap,rfl⟩:∃ ao n' cap,v'=.slice ao n' cap:=by
  rcases hown'.2 with ⟨hv,_⟩ | ⟨g,cap,cur,fz,hv,_⟩
  ·exact ⟨_,_,_,hv⟩
  ·exact ⟨_,_,_,hv⟩
 go_wp2
 go_ret2
 refine ⟨rfl,Or.inr ?_, ?_,(hk1.2.grown hgrow (Lib.ownsRowF_kind hown)).setCell ⟨b,1,none⟩ rfl _⟩
 ·have e:Lib.byteCells (l ++ s.data.toList)=Lib.byteCells l ++ Lib.strCells s:=by simp [Lib.byteCells,Lib.strCells]
  rw [e]
  exact Lib.BuilderAtF.put (T:=100) (e:=5) hB hb2 (bs':=Lib.byteCells l ++ Lib.strCells s) (by simpa [Lib.strCells_length] using hown') (by decide)
 ·exact (hk1.1.grown hgrow (by omega) (fun k hk=>(hown.lt k hk).1)).setCell (p:=⟨b,1,none⟩) hB _
end Go.Proofs.YtdgoibnndfibnaaGreatDoor

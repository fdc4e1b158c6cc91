/- dnf.Expand: what it answers, for every tree and every most. -/
import Derived.Test.YtikhopiegaoacacDZaf
import Derived.Test.YtikhopiegaoacacDZah
import Derived.Test.YtikhopiegaoacacDDnfMeasAll
import Derived.Test.YtikhopiegaoacacDPushAll
import Derived.Test.YtikhopiegaoacacDZae
namespace Go.Proofs.Ytikhopiegaoacac
open Go.RowKit Go.Sort

theorem cj_small:∀ t:Nd,∀ c ∈ cjN t,c.length≤wtN t∧∀ l ∈ c,l.ints.length≤wtN t∧l.words.length≤wtN t:=by
  intro t
  induction t using Nd.ind with
  | h kind attr ints words lo hi op kids ih =>
    intro c hc
    have hwl:=words_len words
    simp only [cjN] at hc
    split at hc
    · have:∀ ks:List Nd,(∀ x ∈ ks,∀ c ∈ cjN x,c.length≤wtN x∧∀ l ∈ c,l.ints.length≤wtN x∧l.words.length≤wtN x)→∀ c ∈ cjSum ks,c.length≤wtL ks∧∀ l ∈ c,l.ints.length≤wtL ks∧l.words.length≤wtL ks:=by
        intro ks
        induction ks with
        | nil=>intro _ c hc;simp [cjSum] at hc
        | cons x ks ihk =>
          intro hx c hc
          simp only [cjSum,List.mem_append] at hc
          simp only [wtL]
          rcases hc with hc | hc
          · obtain ⟨a,b⟩:=hx x (by simp) c hc
            exact ⟨by omega,fun l hl=>by have:=b l hl;omega⟩
          · obtain ⟨a,b⟩:=ihk (fun y hy=>hx y (by simp [hy])) c hc
            exact ⟨by omega,fun l hl=>by have:=b l hl;omega⟩
      obtain ⟨a,b⟩:=this kids ih c hc
      simp only [wtN]
      exact ⟨by omega,fun l hl=>by have:=b l hl;omega⟩
    · split at hc
      · have:∀ ks:List Nd,(∀ x ∈ ks,∀ c ∈ cjN x,c.length≤wtN x∧∀ l ∈ c,l.ints.length≤wtN x∧l.words.length≤wtN x)→∀ c ∈ cjProd ks,c.length≤wtL ks∧∀ l ∈ c,l.ints.length≤wtL ks∧l.words.length≤wtL ks:=by
          intro ks
          induction ks with
          | nil=>intro _ c hc;simp [cjProd] at hc;subst hc;simp
          | cons x ks ihk =>
            intro hx c hc
            simp only [cjProd,crossL,List.mem_flatMap,List.mem_map] at hc
            obtain ⟨c1,h1,c2,h2,rfl⟩:=hc
            obtain ⟨a,b⟩:=hx x (by simp) c1 h1
            obtain ⟨a2,b2⟩:=ihk (fun y hy=>hx y (by simp [hy])) c2 h2
            simp only [wtL,List.length_append]
            exact ⟨by omega,fun l hl=>by
              rcases List.mem_append.1 hl with hl | hl
              · have:=b l hl;omega
              · have:=b2 l hl;omega⟩
        obtain ⟨a,b⟩:=this kids ih c hc
        simp only [wtN]
        exact ⟨by omega,fun l hl=>by have:=b l hl;omega⟩
      · split at hc
        · cases kids with
          | nil=>simp [negLit] at hc
          | cons x ks =>
            obtain ⟨k2,a2,i2,w2,l2,h2,o2,ks2⟩:=x
            have hwl2:=words_len w2
            simp only [negLit,List.mem_singleton] at hc
            subst hc
            simp only [wtN,wtL,List.length_singleton,List.mem_singleton]
            exact ⟨by omega,fun l hl=>by subst hl;simp only;omega⟩
        · simp only [List.mem_singleton] at hc
          subst hc
          simp only [wtN,List.length_singleton,List.mem_singleton]
          exact ⟨by omega,fun l hl=>by subst hl;simp only;omega⟩
/-- What Expand answers. -/
def expE (t:Nd) (m:Int):Int:=if WidthE t m=0 then (if WidthA t m > m then 13 else 0) else WidthE t m
def expC (t:Nd) (m:Int):List (List Lt):=if expE t m=0 then cjN (downN t false) else []
theorem exp_ok {t:Nd} {m:Int} (h0:WidthE t m=0) (h1:¬ WidthA t m > m):chkN t=true∧1≤m∧m≤64∧wN (downN t false)≤m∧WidthA t m=((cjN (downN t false)).length:Nat)∧expE t m=0∧expC t m=cjN (downN t false):=by
  have hc:chkN t=true:=by
    cases h:chkN t with
    | true=>rfl
    | false=>simp [WidthE,h] at h0
  have hm:1≤m∧m≤64:=by
    by_cases h:1≤m∧m≤64
    · exact h
    · simp [WidthE,hc,h] at h0
  have hA:WidthA t m=widN m (downN t false):=by simp [WidthA,hc,hm]
  have hd:=chk_down t false hc
  have hw:=(wid_min hm.1 hm.2 _ hd).1
  have hcj:=(cj_all [] _ hd (at_down t false hc)).1
  have e:expE t m=0:=by unfold expE;rw [if_pos h0,if_neg h1]
  rw [hA] at h1 ⊢
  exact ⟨hc,hm.1,hm.2,by omega,by rw [hcj];omega,e,by unfold expC;rw [if_pos e]⟩
set_option maxRecDepth 100000 in
set_option maxHeartbeats 4000000 in
theorem width_bad8 (x:Nd) (m:Int) (v:Nv) (w:World) (hin:NdIn w v x) (hx:chkN x=false) (hwt:wtN x≤1000000000) :
    Calls Try.prog 21 #[.agg #[.int .i64 v.kind,.string v.attr,.slice v.qi v.ni v.ci,.slice v.qw v.nw v.cw,.int .i64 v.lo,.int .i64 v.hi,.int .i64 v.op,.slice v.qk v.nk v.ck],.int .i64 m] w fun e w'=>e=.returned (.tuple #[.int .i64 0,.int .i64 1])∧Below w.heap.size w w':=by
  obtain ⟨X,HX⟩:∃ X,w.alloc (.cells #[.int .i64 v.kind,.string v.attr,.slice v.qi v.ni v.ci,.slice v.qw v.nw v.cw,.int .i64 v.lo,.int .i64 v.hi,.int .i64 v.op,.slice v.qk v.nk v.ck] 28)=X:=⟨_,rfl⟩
  have hX0:X.heap[w.heap.size]? = some (.cells #[.int .i64 v.kind,.string v.attr,.slice v.qi v.ni v.ci,.slice v.qw v.nw v.cw,.int .i64 v.lo,.int .i64 v.hi,.int .i64 v.op,.slice v.qk v.nk v.ck] 28 (0,0)):=by rw [← HX];exact box_nw _ _
  have hwX:Below w.heap.size w X:=by rw [← HX];exact (Below.refl _ _).alloc (Nat.le_refl _) _
  obtain ⟨x0,x1,x2,x3,x4,x5,x6,x7⟩:=of8' hX0
  have hp:=push_any x v X (hin.keep hwX) hwt
  have HWX:=hide hwX
  rw [hx,show code false=1 from rfl] at hp
  simp only [Nv.val] at hp
  clear hin hwX hX0 hx
  go_enter Try.func21,Try.ntmps21
  go_wp2_with (go_at_call 22;refine hp.mono ?_;rintro e w1 ⟨⟨u,rfl,hu⟩,b1⟩;have B1:=hide b1;clear b1 hu)
  refine bodyPost_ret (v:=.tuple #[.int .i64 0,.int .i64 1]) (by simp [results,Try.results21,go_sem]) rfl ⟨rfl,(below_sub (uh HWX) (uh B1)).alloc (below_sub (uh HWX) (uh B1)).size _⟩
theorem pushWidth_any2 (x:Nd) (m:Int) (u:Nv) (W:World) (h:NdIn W u x) (hwt:wtN x≤400000000):Calls Try.prog 21 #[u.val,.int .i64 m] W fun e w'=>e=.returned (.tuple #[.int .i64 (WidthA x m),.int .i64 (WidthE x m)])∧Below W.heap.size W w':=by
  cases hc:chkN x
  · rw [show WidthA x m=0 by unfold WidthA;rw [hc];rfl,show WidthE x m=1 by unfold WidthE;rw [hc];rfl]
    exact width_bad8 x m u W h hc (by omega)
  · exact pushWidth_any x m u W h (by omega) (by have:=wt_down x false hc;omega)
theorem Try.info37:(Try.prog.info? 37).map (fun i=>(i.zero,i.size,i.bytes))=some (some (.slice none 0 0),1,24):=by kernel_rfl
theorem makeCj (n:Nat) (h:n * 24≤140737488355328):∃ cur:Array Value,cur.size=n * 1∧∀ W:World,(Instr.makeSlice 31 (.int .i64 (n:Int)) (.int .i64 (n:Int))).run Try.prog W=.ok (.slice (some ⟨W.heap.size,0,none⟩) n n) (W.alloc (.cells cur 37)):=by
  obtain ⟨i0,hi,hz0,hz1,hz2⟩:=info_parts Try.info37
  refine ⟨madeCells (Value.cells (.slice none 0 0)) (n * i0.size),by rw [size_madeCells,hz1],fun W=>?_⟩
  have:=run_make (P:=Try.prog) W 31 37 i0 _ Try.underlying31 hi hz0 .i64 .i64 (n:Int) (n:Int) (by omega) (by omega) (by rw [hz2];omega) (by omega)
  simpa only [Int.toNat_natCast] using this
theorem OffP.mono {B B':Nat} {P:World→Prop} {g:Option Nat} {w:World} (h:OffP B P g w) (hB:B'≤B):OffP B' P g w:=fun w' hs hc=>h w' hs fun b hb hlt hne=>hc b (by omega) hlt hne
theorem GrowL.mono {B B':Nat} {w:World} {q:Option Addr} {c n:Nat} {ls:List Lt} (h:GrowL B w q c n ls) (hB:B'≤B):GrowL B' w q c n ls:=by
  obtain ⟨h1,us,h2,h3,h4⟩:=h
  exact ⟨h1,us,h2,h3.mono hB,(h4.mono hB).imp fun x hx j u l a b=>(hx j u l a b).mono hB⟩
theorem GrowL.set {B:Nat} {w:World} {q:Option Addr} {c n:Nat} {ls:List Lt} (h:GrowL B w q c n ls) {g:Nat} (hg:g < B) (o:Nat) (u:Value):GrowL B (w.setCell ⟨g,o,none⟩ u) q c n ls:=by
  obtain ⟨h1,us,h2,h3,h4⟩:=h
  refine ⟨h1,us,h2, ?_,h4.set (p:=⟨g,o,none⟩) hg u⟩
  refine World.ownsRow.kept h3 (gset (grefl w (some g)) o u) (Or.inr fun e=>?_)
  have:=(World.ownsRow.lt h3 g e).1
  omega
/-- A conjunction in a range of blocks of its own. -/
def cjOb (lo hi:Nat) (u:Option Addr × Nat × Nat) (ls:List Lt):Ob:=⟨lo,hi,fun W=>GrowL lo W u.1 u.2.2 u.2.1 ls∧∃ vs,LR lo hi W u.1 u.2.1 u.2.2 vs⟩
theorem GrowL.st {lo:Nat} {w:World} {q:Option Addr} {c n:Nat} {ls:List Lt} (h:GrowL lo w q c n ls) (hb:litBound ls) (hl:lo≤w.heap.size):St lo w.heap.size (cjOb lo w.heap.size (q,n,c) ls).P w:=by
  obtain ⟨vs,hv⟩:=h.lr hb
  obtain ⟨h1,us,h2,h3,h4⟩:=h
  refine ⟨hl,Nat.le_refl _,fun w' hs he=>⟨⟨h1,us,h2,h3.upF h3.from he,fun w'' hs2 hc=>h4 w'' (Nat.le_trans hs hs2) fun b hb hlt hne=>(hc b hb (Nat.lt_of_lt_of_le hlt hs) hne).trans (he b hb hlt)⟩,vs,hv.same he⟩⟩
/-- The j-th object is of the j-th conjunction. -/
def FamQ (B:Nat) (cs:List (List Lt)) (us:List (Option Addr × Nat × Nat)) (ms:List Ob):Prop:=∀ (j:Nat) (u:Option Addr × Nat × Nat) (ls:List Lt),us[j]? = some u→cs[j]? = some ls→∃ lo hi,B≤lo∧ms[j]? = some (cjOb lo hi u ls)
theorem FamQ.snoc {B k:Nat} {cs:List (List Lt)} {us:List (Option Addr × Nat × Nat)} {ms:List Ob} {v:Option Addr × Nat × Nat} {x:List Lt} {lo hi:Nat} (h:FamQ B cs us ms) (hu:us.length=k) (hm:ms.length=k) (hx:cs[k]? = some x) (hB:B≤lo):FamQ B cs (us ++ [v]) (ms ++ [cjOb lo hi v x]):=by
  intro j u y hj hy
  by_cases h1:j < k
  · rw [List.getElem?_append_left (by omega)] at hj
    obtain ⟨l,t,h2,h3⟩:=h j u y hj hy
    exact ⟨l,t,h2,by rw [List.getElem?_append_left (by omega)];exact h3⟩
  · have hj2:=(List.getElem?_eq_some_iff.1 hj).1
    rw [List.length_append,List.length_singleton] at hj2
    obtain rfl:j=k:=by omega
    rw [List.getElem?_append_right (by omega),hu,Nat.sub_self] at hj
    rw [hx] at hy
    cases hj;cases hy
    exact ⟨lo,hi,hB,by rw [List.getElem?_append_right (by omega),hm,Nat.sub_self];rfl⟩
/-- Conjunctions in memory of the call's own, each in a range of blocks of its own. -/
def CjsNew (B:Nat) (w:World) (q:Option Addr) (c:Nat) (cs:List (List Lt)):Prop:=∃ (us:List (Option Addr × Nat × Nat)) (ms:List Ob),us.length=cs.length∧ms.length=cs.length∧OwnK encQ 37 1 B w q c us∧Objs ms w∧Out ms q∧FamQ B cs us ms
theorem CjsNew.of {B:Nat} {w:World} {q:Option Addr} {c:Nat} {cs:List (List Lt)} (h:CjsNew B w q c cs):CjsOf w q c cs:=by
  obtain ⟨us,ms,h1,_,h2,h3,_,h4⟩:=h
  refine ⟨us,h2.ls,h1,fun j u ls hj hl=>?_⟩
  obtain ⟨lo,hi,_,hm⟩:=h4 j u ls hj hl
  have hg:GrowL lo w u.1 u.2.2 u.2.1 ls:=(h3.get (o:=cjOb lo hi u ls) (List.mem_of_getElem? hm)).1
  exact ⟨hg.1.symm,hg.lits⟩
theorem CjsNew.nil (B:Nat) (w:World):CjsNew B w none 0 []:=⟨[],[],rfl,rfl,OwnK.nil _ _,Objs.nil _,(fun a h=>by cases h),fun j u ls h=>by simp at h⟩
theorem flatQ (us:List (Option Addr × Nat × Nat)):(flatK encQ 1 us.toArray).toList=us.map (fun u=>Value.slice u.1 u.2.1 u.2.2):=by
  apply List.ext_getElem?
  intro j
  by_cases hj:j < us.length
  · obtain ⟨x,hx,_⟩:=get_at hj
    have:=flat_at (enc:=encQ) (k:=1) hx 0 (by omega)
    rw [Nat.mul_one,Nat.add_zero] at this
    rw [this,List.getElem?_map,hx];rfl
  · rw [List.getElem?_eq_none (by simp [flatK];omega),List.getElem?_eq_none (by simp;omega)]
theorem snocQ {cs:List (List Lt)} {us:List (Option Addr × Nat × Nat)} {Q:(Option Addr × Nat × Nat)→List Lt→Prop} {s:Option Addr × Nat × Nat} {x:List Lt} {k:Nat} (hu:us.length=k) (hx:cs[k]? = some x) (h:∀ (j:Nat) (v:Option Addr × Nat × Nat) (x:List Lt),us[j]? = some v→cs[j]? = some x→Q v x) (sp:Q s x):∀ (j:Nat) (y:Option Addr × Nat × Nat) (z:List Lt),(us ++ [s])[j]? = some y→cs[j]? = some z→Q y z:=by
  intro j y z hj hz
  by_cases hjk:j < k
  · rw [List.getElem?_append_left (by omega)] at hj
    exact h j y z hj hz
  · have hj2:=(List.getElem?_eq_some_iff.1 hj).1
    rw [List.length_append,hu] at hj2
    obtain rfl:j=k:=by simp at hj2;omega
    rw [List.getElem?_append_right (by omega),hu,Nat.sub_self] at hj
    rw [hx] at hz
    cases hj
    cases hz
    exact sp
set_option maxRecDepth 100000 in
set_option maxHeartbeats 4000000 in
theorem expand_any (t:Nd) (m:Int) (v:Nv) (w:World) (hin:NdIn w v t) (hwt:wtN t≤400000000) :
    Calls Try.prog 6 #[v.val,.int .i64 m] w fun e w'=>(∃ q c,e=.returned (.tuple #[.slice q (expC t m).length c,.int .i64 (expE t m)])∧CjsNew w.heap.size w' q c (expC t m))∧Below w.heap.size w w':=by
  obtain ⟨X,HX⟩:∃ X,w.alloc (.cells #[.int .i64 v.kind,.string v.attr,.slice v.qi v.ni v.ci,.slice v.qw v.nw v.cw,.int .i64 v.lo,.int .i64 v.hi,.int .i64 v.op,.slice v.qk v.nk v.ck] 28)=X:=⟨_,rfl⟩
  have bX:Below w.heap.size w X:=by rw [← HX];exact (Below.refl _ _).alloc (Nat.le_refl _) _
  have x8:X.heap[w.heap.size]? = some (.cells #[.int .i64 v.kind,.string v.attr,.slice v.qi v.ni v.ci,.slice v.qw v.nw v.cw,.int .i64 v.lo,.int .i64 v.hi,.int .i64 v.op,.slice v.qk v.nk v.ck] 28 (0,0)):=by rw [← HX];exact box_nw _ _
  obtain ⟨c0,c1,c2,c3,c4,c5,c6,c7⟩:=of8' x8
  have hlt8:=heap_lt x8
  have X8:=hide x8
  have BX:=hide bX
  simp only [Nv.val]
  have hwd:wtN (downN t false)≤1000000000 ∨ chkN t=false:=by
    cases h:chkN t with
    | true=>exact Or.inl (by have:=wt_down t false h;omega)
    | false=>exact Or.inr rfl
  have hPW:=pushWidth_any2 t m v X (hin.keep bX) (by omega)
  simp only [Nv.val] at hPW
  have HIN:=hide (hin.keep bX)
  by_cases e0:WidthE t m=0
  · by_cases e1:WidthA t m > m
    · have hE:expE t m=13:=by unfold expE;rw [if_pos e0,if_pos e1]
      have hCn:expC t m=[]:=by unfold expC;rw [if_neg (by omega)]
      rw [hE,hCn]
      rw [e0] at hPW
      obtain ⟨A,hA⟩:∃ A,WidthA t m=A:=⟨_,rfl⟩
      rw [hA] at hPW e1
      have e2:decide (A > m)=true:=by simp;omega
      clear hin bX x8 hE hCn hA e0
      go_enter Try.func6,Try.ntmps6
      go_wp2_with (go_at_call 21;refine hPW.mono ?_;rintro e w1 ⟨rfl,b1⟩;have B1:=hide b1;clear b1)
      refine bodyPost_ret (v:=.tuple #[.slice none 0 0,.int .i64 13]) (by simp [results,Try.results6,go_sem, *]) rfl ⟨⟨none,0,rfl,CjsNew.nil _ _⟩,below_sub (uh BX) (uh B1)⟩
    · obtain ⟨hc,m1,m2,hwn,hwa,hE,hCe⟩:=exp_ok e0 e1
      rw [hE,hCe]
      obtain ⟨T,hT⟩:∃ T,downN t false=T:=⟨_,rfl⟩
      have hTc:chkN T=true:=by rw [← hT];exact chk_down t false hc
      have hTa:atN T=true:=by rw [← hT];exact at_down t false hc
      have hTw:wtN T≤1000000000:=by rw [← hT];have:=wt_down t false hc;omega
      rw [hT] at hwn hwa
      rw [hT]
      have hPT:PushT t=T:=by unfold PushT;rw [if_pos hc,hT]
      obtain ⟨n,hn⟩:∃ n,(cjN T).length=n:=⟨_,rfl⟩
      rw [hn] at hwa
      rw [hn]
      have hnm:(n:Int)≤m:=by omega
      have hn64:n≤64:=by omega
      have hwT:wN T≤64:=by omega
      rw [e0,hwa] at hPW
      have e2:decide ((n:Int) > m)=false:=by simp;omega
      have hP:=fun (W:World) (hW:Below X.heap.size X W)=>push_any t v W ((uh HIN).keep hW) (by omega)
      rw [hc,hPT] at hP
      simp only [Nv.val,code,if_true] at hP
      obtain ⟨cur,hcs,hmk⟩:=makeCj n (by omega)
      have hmx:n≤maxLen:=by unfold maxLen;omega
      have HN:=hide hn
      have HCS:=hide hcs
      have a1:(0:Int)≤(n:Int):=by omega
      clear hin bX x8 hE hCe e0 e1 hwa hT hPT hcs hn hwd hc hwn
      go_enter Try.func6,Try.ntmps6
      go_wp2_with (first
        | (go_at_call 21;refine hPW.mono ?_;rintro e w1 ⟨rfl,b1⟩;(obtain ⟨d0,d1,d2,d3,d4,d5,d6,d7⟩:=of8' ((b1.block _ hlt8).trans (uh X8)));have B1:=hide b1;clear b1)
        | (go_at_call 22;refine (hP _ (uh B1)).mono ?_;rintro e w2 ⟨⟨u,rfl,hu⟩,b2⟩;simp only;have HU:=hide hu.toIn;have B2:=hide (below_sub (uh B1) b2);clear hu b2)
        | (go_at_call 23;refine name_worldM ?_;intro Y hY;have bY:Below w2.heap.size w2 Y:=(by rw [hY];exact (Below.refl _ _).alloc (Nat.le_refl _) _);refine (meas_all T u Y Y ((uh HU).keep bY) (Below.refl _ _) hTc hTa hTw hwT).mono ?_;rintro e M ⟨⟨s,rfl,hs⟩,bM⟩;simp only [Sv.val];have HS:=hide hs.now;have BM:=hide (below_sub (uh BX) (below_sub (uh B2) (below_sub bY bM)));have HMS:=hide (show s.width=(n:Int) from (hs.now.wide hTc hTa).trans ((cj_all [] T hTc hTa).1.symm.trans (by rw [uh HN])));clear hs bM bY hY))
      obtain ⟨V,HV⟩:∃ V,M.alloc (.cells #[.int .i64 s.lit.kind,.string s.lit.attr,.slice s.lit.qi s.lit.ni s.lit.ci,.slice s.lit.qw s.lit.nw s.lit.cw,.int .i64 s.lit.lo,.int .i64 s.lit.hi,.bool s.lit.neg,.int .i64 s.op,.int .i64 s.width,.slice s.qk s.nk s.ck] 62)=V:=⟨_,rfl⟩
      have vk:V.heap[M.heap.size]? = some (.cells #[.int .i64 s.lit.kind,.string s.lit.attr,.slice s.lit.qi s.lit.ni s.lit.ci,.slice s.lit.qw s.lit.nw s.lit.cw,.int .i64 s.lit.lo,.int .i64 s.lit.hi,.bool s.lit.neg,.int .i64 s.op,.int .i64 s.width,.slice s.qk s.nk s.ck] 62 (0,0)):=by rw [← HV];exact box_nw _ _
      have bV:Below M.heap.size M V:=by rw [← HV];exact (Below.refl _ _).alloc (Nat.le_refl _) _
      have sV:V.heap.size=M.heap.size + 1:=by rw [← HV];simp
      obtain ⟨Y,HY⟩:∃ Y,V.alloc (.cells cur 37)=Y:=⟨_,rfl⟩
      have bY:Below V.heap.size V Y:=by rw [← HY];exact (Below.refl _ _).alloc (Nat.le_refl _) _
      have yk:Y.heap[V.heap.size]? = some (.cells cur 37 (0,0)):=by rw [← HY];exact box_nw _ _
      have sY:Y.heap.size=V.heap.size + 1:=by rw [← HY];simp
      have RQ:=hide (show Y.ownsRow (M.heap.size + 1) 37 1 (.slice (some ⟨M.heap.size + 1,0,none⟩) n n) n cur.toList from by rw [← sV];exact rowOf10 yk (by omega) (uh HCS) hmx)
      have VK:=hide ((bY.block _ (heap_lt vk)).trans vk)
      have VK0:=hide vk
      have BVY:=hide bY
      have BMV:=hide bV
      have hMw:=(uh BM).size
      clear vk bV bY yk VK
      simp only [HV,HY]
      go_loopw [36] (fun i wr=>∃ (k:Nat) (us:List (Option Addr × Nat × Nat)) (ms:List Ob),k≤n∧i=.int .i64 k∧us.length=k∧ms.length=k∧Hid (wr.ownsRow (M.heap.size + 1) 37 1 (.slice (some ⟨M.heap.size + 1,0,none⟩) n n) n (us.map (fun u=>Value.slice u.1 u.2.1 u.2.2) ++ cur.toList.drop k))∧Hid (Below V.heap.size V wr)∧M.heap.size + 2≤wr.heap.size∧Hid (Objs ms wr)∧Hid (∀ p ∈ ms,M.heap.size + 1 < p.lo ∨ p.hi≤M.heap.size + 1)∧Hid (FamQ (M.heap.size + 2) (cjN T) us ms)) (fun i _=>n - (intOf i).toNat)
      case atStart=>exact ⟨0,[],[],by omega,rfl,rfl,rfl,by simpa using RQ,BVY,by omega,hide (Objs.nil _),hide (fun p hp=>by simp at hp),hide (fun j u ls h=>by simp at h)⟩
      case round =>
        obtain ⟨k,us,ms,hkk,rfl,hus,hms,RQr,HB,hsz,HOB,HOT,HG⟩:=hrel
        have HUS:=hide hus
        have HMS2:=hide hms
        clear hus hms
        have BMr:Below M.heap.size M wr:=below_sub (uh BMV) (uh HB)
        by_cases hlt:k < n
        · obtain ⟨cj,hcj,_⟩:=get_at (l:=cjN T) (k:=k) (by have:=uh HN;omega)
          have hcl:=(cj_small T cj (List.mem_of_getElem? hcj)).1
          have vr:=((uh HB).block _ (by omega)).trans (uh VK0)
          obtain ⟨f0,f1,f2,f3,f4,f5,f6,f7,f8,f9⟩:=of10' vr
          have hC:=conj_all T hTc hTa hTw (by omega) s M k cj none 0 0 wr.heap.size [] wr (uh HS) BMr BMr.size (Nat.le_refl _) (GrowL.nil _ _) hcj (by omega)
          unfold Sv.val at hC
          have ki0:(0:Int)≤(k:Int):=by omega
          have ki1:(k:Int) < (n:Int):=by omega
          obtain ⟨zi,hzi⟩:∃ zi,cur.toList.drop k=[zi] ++ cur.toList.drop (k + 1):=⟨_,List.drop_eq_getElem_cons (by have:=uh HCS;simp only [Array.length_toList];omega)⟩
          have RQ1:=hide (show wr.ownsRow (M.heap.size + 1) 37 1 (.slice (some ⟨M.heap.size + 1,0,none⟩) n n) n (us.map (fun u=>Value.slice u.1 u.2.1 u.2.2) ++ [zi] ++ cur.toList.drop (k + 1)) by have h:=uh RQr;rw [hzi,← List.append_assoc] at h;exact h)
          have HCJ:=hide hcj
          have hlb:litBound cj:=fun l hl=>by have:=(cj_small T cj (List.mem_of_getElem? hcj)).2 l hl;omega
          clear hcj hzi vr
          go_wp2_with (go_at_call 24;refine hC.mono ?_;rintro e w2 ⟨q2,c2,N2,rfl,h1,h2⟩;simp only;have HE2:=hide h2;have OB2:=hide (Objs.ins (L1:=ms) (L2:=[]) (o:=cjOb wr.heap.size w2.heap.size (q2,N2,c2) cj) (show Objs (ms ++ []) wr by rw [List.append_nil];exact uh HOB) h2 (GrowL.st (show GrowL wr.heap.size w2 q2 c2 N2 cj from h1) hlb h2.size) (Nat.le_refl _));have RQ2:=hide (row_below (uh RQ1) h2);have ic:=World.ownsRow.cellAt (uh RQ2) k (by omega);rw [List.append_assoc,List.getElem?_append_right (by rw [List.length_map,uh HUS];omega),List.length_map,uh HUS,Nat.sub_self] at ic;simp only [List.cons_append,List.getElem?_cons_zero] at ic;have iff2:∀ o,w2.frozen? ⟨M.heap.size + 1,o,none⟩=false:=ownsRow_free (uh RQ2);have hs2:=h2.size;clear h1 h2)
          have OT2:=hide (show ∀ p ∈ ms ++ [cjOb wr.heap.size w2.heap.size (q2,N2,c2) cj],M.heap.size + 1 < p.lo ∨ p.hi≤M.heap.size + 1 from fun p hp=>by
            rcases List.mem_append.1 hp with hp | hp
            · exact uh HOT p hp
            · rw [List.mem_singleton.1 hp]
              exact Or.inl (show M.heap.size + 1 < wr.heap.size by omega))
          exact ⟨⟨k + 1,us ++ [(q2,N2,c2)],ms ++ [cjOb wr.heap.size w2.heap.size (q2,N2,c2) cj],by omega,by go_num,by rw [List.length_append,uh HUS];rfl,by rw [List.length_append,uh HMS2];rfl,hide (by
            have h:=row1 (o:=k) zi (.slice q2 N2 c2) (uh RQ2) (by rw [List.length_map,uh HUS])
            rw [List.map_append,List.map_singleton]
            exact h),hide ((below_sub (uh HB) (uh HE2)).setCell (by simp only;omega) _),by simp only [World.size_setCell];omega,hide ((uh OB2).set (uh OT2)),OT2,hide ((uh HG).snoc (uh HUS) (uh HMS2) (uh HCJ) (by omega))⟩,by simp [intOf];omega⟩
        · have hkl:k=n:=by omega
          subst hkl
          have ki1:¬ (k:Int) < (k:Int):=by omega
          have RQ4:=uh RQr
          rw [List.drop_of_length_le (by have:=uh HCS;simp only [Array.length_toList];omega),List.append_nil,← flatQ] at RQ4
          have hO:OwnK encQ 37 1 (M.heap.size + 1) wr (some ⟨M.heap.size + 1,0,none⟩) k us:=by unfold OwnK;rw [uh HUS];exact RQ4
          have HO:=hide hO
          clear RQ4 hO
          go_wp2
          refine bodyPost_ret (v:=.tuple #[.slice (some ⟨M.heap.size + 1,0,none⟩) k k,.int .i64 0]) (by simp [results,Try.results6,go_sem, *]) rfl ⟨⟨some ⟨M.heap.size + 1,0,none⟩,k,rfl,us,ms,(uh HUS).trans (uh HN).symm,(uh HMS2).trans (uh HN).symm,(uh HO).mono (by omega),uh HOB,(fun a e p hp=>by cases e;exact uh HOT p hp),fun j u ls h1 h2=>(by obtain ⟨lo,hi,h3,h4⟩:=uh HG j u ls h1 h2;exact ⟨lo,hi,by omega,h4⟩)⟩,below_sub (uh BM) BMr⟩
  · have hE:expE t m=WidthE t m:=by unfold expE;rw [if_neg e0]
    have hCn:expC t m=[]:=by unfold expC;rw [if_neg (by omega)]
    rw [hE,hCn]
    obtain ⟨A,hA⟩:∃ A,WidthA t m=A:=⟨_,rfl⟩
    obtain ⟨E,hEE⟩:∃ E,WidthE t m=E:=⟨_,rfl⟩
    rw [hA,hEE] at hPW
    rw [hEE] at e0
    rw [hEE]
    have e2:(E != 0)=true:=by simp [e0]
    clear hin bX x8 hE hCn hA hEE
    go_enter Try.func6,Try.ntmps6
    go_wp2_with (go_at_call 21;refine hPW.mono ?_;rintro e w1 ⟨rfl,b1⟩;have B1:=hide b1;clear b1)
    refine bodyPost_ret (v:=.tuple #[.slice none 0 0,.int .i64 E]) (by simp [results,Try.results6,go_sem, *]) rfl ⟨⟨none,0,rfl,CjsNew.nil _ _⟩,below_sub (uh BX) (uh B1)⟩
end Go.Proofs.Ytikhopiegaoacac

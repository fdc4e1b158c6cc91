/- dnf's leaves: the trees of literals. -/
import Derived.Test.YtikhopiegaoacacDZah
import Derived.Test.YtikhopiegaoacacDJoin
namespace Go.Proofs.Ytikhopiegaoacac
open Go.RowKit Go.Sort

/-- The tree of a literal. -/
def litN (l:Lt):Nd:=if l.neg then notT (.mk l.kind l.attr l.ints l.words l.lo l.hi 1 []) else .mk l.kind l.attr l.ints l.words l.lo l.hi 1 []
theorem g8z (w:World) (g o:Nat) (a0 a1 a2 a3 a4 a5 a6 a7:Value):w.grownBy ((((((((w.setCell ⟨g,o,none⟩ (a0)).setCell ⟨g,o + 1,none⟩ (a1)).setCell ⟨g,o + 2,none⟩ (a2)).setCell ⟨g,o + 3,none⟩ (a3)).setCell ⟨g,o + 4,none⟩ (a4)).setCell ⟨g,o + 5,none⟩ (a5)).setCell ⟨g,o + 6,none⟩ (a6)).setCell ⟨g,o + 7,none⟩ (a7)) (some g):=gset (gset (gset (gset (gset (gset (gset (gset (grefl w (some g)) _ _) _ _) _ _) _ _) _ _) _ _) _ _) _ _
theorem ags8 {A C:Nat} {w0 w:World} (h:Ags A C w0 w) {g:Nat} (o:Nat) (h1:A≤g) (h2:g < C) (a0 a1 a2 a3 a4 a5 a6 a7:Value):Ags A C w0 ((((((((w.setCell ⟨g,o,none⟩ (a0)).setCell ⟨g,o + 1,none⟩ (a1)).setCell ⟨g,o + 2,none⟩ (a2)).setCell ⟨g,o + 3,none⟩ (a3)).setCell ⟨g,o + 4,none⟩ (a4)).setCell ⟨g,o + 5,none⟩ (a5)).setCell ⟨g,o + 6,none⟩ (a6)).setCell ⟨g,o + 7,none⟩ (a7)):=((((((((h.set (p:=⟨g,o,none⟩) h1 h2 a0)).set (p:=⟨g,o + 1,none⟩) h1 h2 a1).set (p:=⟨g,o + 2,none⟩) h1 h2 a2).set (p:=⟨g,o + 3,none⟩) h1 h2 a3).set (p:=⟨g,o + 4,none⟩) h1 h2 a4).set (p:=⟨g,o + 5,none⟩) h1 h2 a5).set (p:=⟨g,o + 6,none⟩) h1 h2 a6).set (p:=⟨g,o + 7,none⟩) h1 h2 a7
theorem set8b {B g o:Nat} {a w:World} (h:Below B a w) (hg:B≤g) (a0 a1 a2 a3 a4 a5 a6 a7:Value):Below B a ((((((((w.setCell ⟨g,o,none⟩ (a0)).setCell ⟨g,o + 1,none⟩ (a1)).setCell ⟨g,o + 2,none⟩ (a2)).setCell ⟨g,o + 3,none⟩ (a3)).setCell ⟨g,o + 4,none⟩ (a4)).setCell ⟨g,o + 5,none⟩ (a5)).setCell ⟨g,o + 6,none⟩ (a6)).setCell ⟨g,o + 7,none⟩ (a7)) :=
  ((((((((h.setCell (p:=⟨g,o,none⟩) hg a0)).setCell (p:=⟨g,o + 1,none⟩) hg a1).setCell (p:=⟨g,o + 2,none⟩) hg a2).setCell (p:=⟨g,o + 3,none⟩) hg a3).setCell (p:=⟨g,o + 4,none⟩) hg a4).setCell (p:=⟨g,o + 5,none⟩) hg a5).setCell (p:=⟨g,o + 6,none⟩) hg a6).setCell (p:=⟨g,o + 7,none⟩) hg a7
theorem row8 {B n m:Nat} {e:TypeId} {g:Nat} {p d:List Value} {w:World} {o:Nat} (z0 z1 z2 z3 z4 z5 z6 z7 a0 a1 a2 a3 a4 a5 a6 a7:Value) (h:w.ownsRow B e 8 (.slice (some ⟨g,0,none⟩) n m) n (p ++ [z0,z1,z2,z3,z4,z5,z6,z7] ++ d)) (ho:p.length=o):((((((((w.setCell ⟨g,o,none⟩ (a0)).setCell ⟨g,o + 1,none⟩ (a1)).setCell ⟨g,o + 2,none⟩ (a2)).setCell ⟨g,o + 3,none⟩ (a3)).setCell ⟨g,o + 4,none⟩ (a4)).setCell ⟨g,o + 5,none⟩ (a5)).setCell ⟨g,o + 6,none⟩ (a6)).setCell ⟨g,o + 7,none⟩ (a7)).ownsRow B e 8 (.slice (some ⟨g,0,none⟩) n m) n (p ++ [a0,a1,a2,a3,a4,a5,a6,a7] ++ d):=by
  have h2:=((((((((h.stored o a0).1.stored (o + 1) a1).1.stored (o + 2) a2).1.stored (o + 3) a3).1.stored (o + 4) a4).1.stored (o + 5) a5).1.stored (o + 6) a6).1.stored (o + 7) a7).1
  subst ho
  simpa [List.set_append,List.append_assoc] using h2
theorem eight_of {d:List Value} {o:Nat} (h:o + 8≤d.length):∃ z0 z1 z2 z3 z4 z5 z6 z7,d.drop o=[z0,z1,z2,z3,z4,z5,z6,z7] ++ d.drop (o + 8):=by
  refine ⟨d[o],d[o + 1],d[o + 2],d[o + 3],d[o + 4],d[o + 5],d[o + 6],d[o + 7], ?_⟩
  rw [List.drop_eq_getElem_cons (i:=o) (by omega),List.drop_eq_getElem_cons (i:=o + 1) (by omega),List.drop_eq_getElem_cons (i:=o + 2) (by omega),List.drop_eq_getElem_cons (i:=o + 3) (by omega),List.drop_eq_getElem_cons (i:=o + 4) (by omega),List.drop_eq_getElem_cons (i:=o + 5) (by omega),List.drop_eq_getElem_cons (i:=o + 6) (by omega),List.drop_eq_getElem_cons (i:=o + 7) (by omega)]
  rfl
theorem flat_len8 (us:List Nv):(flatK encV 8 us.toArray).toList.length=us.length * 8:=by simp [flatK]
theorem flat_one8 (v:Nv):(flatK encV 8 [v].toArray).toList=[.int .i64 v.kind,.string v.attr,.slice v.qi v.ni v.ci,.slice v.qw v.nw v.cw,.int .i64 v.lo,.int .i64 v.hi,.int .i64 v.op,.slice v.qk v.nk v.ck]:=by
  apply List.ext_getElem?
  intro j
  by_cases hj:j < 8
  · have:=flat_at (enc:=encV) (k:=8) (l:=[v]) (j:=0) (x:=v) rfl j hj
    rw [Nat.zero_mul,Nat.zero_add] at this
    rw [this]
    have hm:j=0 ∨ j=1 ∨ j=2 ∨ j=3 ∨ j=4 ∨ j=5 ∨ j=6 ∨ j=7:=by omega
    rcases hm with e | e | e | e | e | e | e | e <;> rw [e] <;> rfl
  · rw [List.getElem?_eq_none (by simp [flatK];omega),List.getElem?_eq_none (by simp;omega)]
theorem makeNd (n:Nat) (h:n * 120≤140737488355328):∃ cur:Array Value,cur.size=n * 8∧∀ W:World,(Instr.makeSlice 26 (.int .i64 (n:Int)) (.int .i64 (n:Int))).run Try.prog W=.ok (.slice (some ⟨W.heap.size,0,none⟩) n n) (W.alloc (.cells cur 28)):=by
  obtain ⟨i0,hi,hz0,hz1,hz2⟩:=info_parts Try.info28
  refine ⟨madeCells (Value.agg #[.int .i64 0,.string ⟨#[]⟩,.slice none 0 0,.slice none 0 0,.int .i64 0,.int .i64 0,.int .i64 0,.slice none 0 0]).cells (n * i0.size),by rw [size_madeCells,hz1],fun W=>?_⟩
  have:=run_make (P:=Try.prog) W 26 28 i0 _ Try.underlying26 hi hz0 .i64 .i64 (n:Int) (n:Int) (by omega) (by omega) (by rw [hz2];omega) (by omega)
  simpa only [Int.toNat_natCast] using this
/-- The node v is the tree t, and stays so while no cell of a block below A, or from C on, is written. -/
def NdSt (A C:Nat) (v:Nv) (t:Nd) (w:World):Prop:=∀ w',Ags A C w w'→NdIn w' v t
theorem NdSt.step {A C:Nat} {s:Nv} {t:Nd} {w w':World} (h:NdSt A C s t w) (ha:Ags A C w w'):NdSt A C s t w':=fun w'' h2=>h w'' (ha.trans h2)
theorem SlOf.upC {α:Type} [Inhabited α] {enc:α→List Value} {k B:Nat} {w w':World} {q:Option Addr} {c:Nat} {l:List α} (h:SlOf enc k w q c l) (hq:∀ a,q=some a→B≤a.block) (hs:w.heap.size≤w'.heap.size) (hu:∀ b o,B≤b→b < w.heap.size→w'.cell? ⟨b,o,Option.none⟩=w.cell? ⟨b,o,Option.none⟩):SlOf enc k w' q c l :=
  ⟨h.1,h.2.1,h.2.2.1,fun h0=>by
    obtain ⟨b,off,rfl,hB,hA⟩:=h.2.2.2 h0
    exact ⟨b,off,rfl,Nat.lt_of_lt_of_le hB hs,fun j u hj=>(hu b (off + j) (hq _ rfl) hB).trans (hA j u hj)⟩⟩
theorem NdFrom.inC {w w':World} {B:Nat} {v:Nv} {t:Nd} (h:NdFrom w B v t) (hs:w.heap.size≤w'.heap.size) (hu:∀ b o,B≤b→b < w.heap.size→w'.cell? ⟨b,o,none⟩=w.cell? ⟨b,o,none⟩):NdIn w' v t:=by
  induction h with
  | mk hi hw hk hl hr ih=>exact .mk (hi.ls.upC hi.from hs hu) (hw.ls.upC hw.from hs hu) (hk.ls.upC hk.from hs hu) hl fun j v x hj hx=>ih j v x hj hx
theorem NdSt.from {A C B:Nat} {v:Nv} {t:Nd} {w:World} (h:NdFrom w B v t) (hB:C≤B):NdSt A C v t w:=fun w' ha=>h.inC ha.1 fun b o hb hlt=>ha.2 b o hlt (Or.inr (by omega))
theorem NdSt.leaf {w w':World} {C:Nat} {u:Lv} {l:Lt} (h:LitIn w u l) (hb:Below w.heap.size w w'):NdSt w.heap.size C ⟨u.kind,u.attr,u.qi,u.ni,u.ci,u.qw,u.nw,u.cw,u.lo,u.hi,1,none,0,0⟩ (.mk l.kind l.attr l.ints l.words l.lo l.hi 1 []) w':=fun w'' ha=>by
  obtain ⟨h1,h2,h3,h4,h5,h6,h7,h8,h9⟩:=h
  have hs:=hb.size
  have hag:∀ b o,b < w.heap.size→w''.cell? ⟨b,o,none⟩=w.cell? ⟨b,o,none⟩:=fun b o hlt=>(ha.2 b o (by omega) (Or.inl hlt)).trans (hb.cell (p:=⟨b,o,none⟩) hlt)
  rw [h1,h2,h3,h4,h5,h6]
  exact NdIn.make (kids:=[]) (h8.agree (by have:=ha.1;omega) fun ad _ hlt o=>hag ad.block o hlt) (h9.agree (by have:=ha.1;omega) fun ad _ hlt o=>hag ad.block o hlt) ⟨[],SlOf.none _,rfl,fun j v x h=>by simp at h⟩
theorem snocN {kids:List Lt} {us:List Nv} {Q:Nv→Lt→Prop} {s:Nv} {x:Lt} {k:Nat} (hu:us.length=k) (hx:kids[k]? = some x) (h:∀ (j:Nat) (v:Nv) (x:Lt),us[j]? = some v→kids[j]? = some x→Q v x) (sp:Q s x):∀ (j:Nat) (y:Nv) (z:Lt),(us ++ [s])[j]? = some y→kids[j]? = some z→Q y z:=by
  intro j y z hj hz
  by_cases hjk:j < k
  · rw [List.getElem?_append_left (by omega)] at hj
    exact h j y z hj hz
  · have hj2:=(List.getElem?_eq_some_iff.1 hj).1
    rw [List.length_append,hu] at hj2
    obtain rfl:j=k:=by simp at hj2;omega
    rw [List.getElem?_append_right (by omega),hu,Nat.sub_self] at hj
    rw [hx] at hz
    cases hj
    cases hz
    exact sp
set_option maxRecDepth 100000 in
set_option maxHeartbeats 4000000 in
theorem leaves_any (q:Option Addr) (c:Nat) (ls:List Lt) (w:World) (hl:LitsOf w q c ls) (lb:∀ l ∈ ls,wtN (litN l)≤1000000000) (ln:ls.length≤1000000000) :
    Calls Try.prog 33 #[.slice q ls.length c] w fun e w'=>(∃ q' c',e=.returned (.slice q' ls.length c')∧NdsOf w' q' c' (ls.map litN))∧Below w.heap.size w w':=by
  have a0:(ls.length:Int)≤1000000000:=by omega
  have a1:(0:Int)≤(ls.length:Int):=by omega
  have hmx:ls.length≤maxLen:=by unfold maxLen;omega
  obtain ⟨cur,hcs,hmk⟩:=makeNd ls.length (by omega)
  obtain ⟨Y,HY⟩:∃ Y,w.alloc (.cells cur 28)=Y:=⟨_,rfl⟩
  have bY:Below w.heap.size w Y:=by rw [← HY];exact (Below.refl _ _).alloc (Nat.le_refl _) _
  have yk:Y.heap[w.heap.size]? = some (.cells cur 28 (0,0)):=by rw [← HY];exact box_nw _ _
  have sY:Y.heap.size=w.heap.size + 1:=by rw [← HY];simp
  have RN:=hide (show Y.ownsRow (w.heap.size) 28 8 (.slice (some ⟨w.heap.size,0,none⟩) ls.length ls.length) ls.length cur.toList from rowOf10 yk (by omega) hcs hmx)
  have HL:=hide hl
  have HLB:=hide lb
  have HCS:=hide hcs
  have BY:=hide bY
  clear hl lb hcs bY yk
  go_enter Try.func33,Try.ntmps33
  go_wp2
  go_loopw [11] (fun i wr=>∃ (k:Nat) (us:List Nv),k≤ls.length∧i=.int .i64 k∧us.length=k∧Hid (wr.ownsRow (w.heap.size) 28 8 (.slice (some ⟨w.heap.size,0,none⟩) ls.length ls.length) ls.length ((flatK encV 8 us.toArray).toList ++ cur.toList.drop (k * 8)))∧Hid (Below w.heap.size w wr)∧w.heap.size + 1≤wr.heap.size∧Hid (∀ (j:Nat) (v:Nv) (x:Lt),us[j]? = some v→ls[j]? = some x→NdSt w.heap.size (w.heap.size + 1) v (litN x) wr)) (fun i _=>ls.length - (intOf i).toNat)
  case atStart=>exact ⟨0,[],by omega,rfl,rfl,by simpa [flatK] using RN,BY,by omega,hide (fun j v x h=>by simp at h)⟩
  case round =>
    obtain ⟨k,us,hkk,rfl,hus,RNr,HB,hsz,HSP⟩:=hrel
    have HUS:=hide hus
    clear hus
    by_cases hlt:k < ls.length
    · obtain ⟨l,hx,hxd⟩:=get_at hlt
      clear hxd
      obtain ⟨b,off,u,hq,hbb,hin,f0,f1,f2,f3,f4,f5,f6⟩:=(uh HL).at hx
      subst hq
      have g0:=((uh HB).cell (p:=⟨b,off + k * 7,none⟩) hbb).trans f0
      have g1:=((uh HB).cell (p:=⟨b,off + k * 7 + 1,none⟩) hbb).trans f1
      have g2:=((uh HB).cell (p:=⟨b,off + k * 7 + 2,none⟩) hbb).trans f2
      have g3:=((uh HB).cell (p:=⟨b,off + k * 7 + 3,none⟩) hbb).trans f3
      have g4:=((uh HB).cell (p:=⟨b,off + k * 7 + 4,none⟩) hbb).trans f4
      have g5:=((uh HB).cell (p:=⟨b,off + k * 7 + 5,none⟩) hbb).trans f5
      have g6:=((uh HB).cell (p:=⟨b,off + k * 7 + 6,none⟩) hbb).trans f6
      have hlw:=uh HLB l (List.mem_of_getElem? hx)
      have ki0:(0:Int)≤(k:Int):=by omega
      have ki1:(k:Int) < (ls.length:Int):=by omega
      obtain ⟨Z,HZ⟩:∃ Z,wr.alloc (.cells #[.int .i64 u.kind,.string u.attr,.slice u.qi u.ni u.ci,.slice u.qw u.nw u.cw,.int .i64 u.lo,.int .i64 u.hi,.bool u.neg] 51)=Z:=⟨_,rfl⟩
      have bZ:Below wr.heap.size wr Z:=by rw [← HZ];exact (Below.refl _ _).alloc (Nat.le_refl _) _
      have zk:Z.heap[wr.heap.size]? = some (.cells #[.int .i64 u.kind,.string u.attr,.slice u.qi u.ni u.ci,.slice u.qw u.nw u.cw,.int .i64 u.lo,.int .i64 u.hi,.bool u.neg] 51 (0,0)):=by rw [← HZ];exact box_nw _ _
      have sZ:Z.heap.size=wr.heap.size + 1:=by rw [← HZ];simp
      obtain ⟨h0,h1,h2,h3,h4,h5,h6⟩:=of7' zk
      obtain ⟨z0,z1,z2,z3,z4,z5,z6,z7,hz⟩:=eight_of (d:=cur.toList) (o:=k * 8) (by have:=uh HCS;simp only [Array.length_toList];omega)
      have RZ:=hide (show Z.ownsRow (w.heap.size) 28 8 (.slice (some ⟨w.heap.size,0,none⟩) ls.length ls.length) ls.length ((flatK encV 8 us.toArray).toList ++ [z0,z1,z2,z3,z4,z5,z6,z7] ++ cur.toList.drop (k * 8 + 8)) by have h:=row_below (uh RNr) bZ;rw [hz,← List.append_assoc] at h;exact h)
      have cell8:∀ {W:World} {z0 z1 z2 z3 z4 z5 z6 z7:Value},W.ownsRow (w.heap.size) 28 8 (.slice (some ⟨w.heap.size,0,none⟩) ls.length ls.length) ls.length ((flatK encV 8 us.toArray).toList ++ [z0,z1,z2,z3,z4,z5,z6,z7] ++ cur.toList.drop (k * 8 + 8))→∀ i:Nat,i < 8→W.cell? ⟨w.heap.size,k * 8 + i,none⟩=[z0,z1,z2,z3,z4,z5,z6,z7][i]?:=fun h i hi=>by
        have h2:=World.ownsRow.cellAt h (k * 8 + i) (by omega)
        rw [List.append_assoc,List.getElem?_append_right (by rw [flat_len8,uh HUS];omega),flat_len8,uh HUS,Nat.add_sub_cancel_left,List.getElem?_append_left (by simpa using hi)] at h2
        exact h2
      have zf:∀ o,Z.frozen? ⟨w.heap.size,o,none⟩=false:=ownsRow_free (uh RZ)
      have c0:=cell8 (uh RZ) 0 (by omega)
      have c1:=cell8 (uh RZ) 1 (by omega)
      have c2:=cell8 (uh RZ) 2 (by omega)
      have c3:=cell8 (uh RZ) 3 (by omega)
      have c4:=cell8 (uh RZ) 4 (by omega)
      have c5:=cell8 (uh RZ) 5 (by omega)
      have c6:=cell8 (uh RZ) 6 (by omega)
      have c7:=cell8 (uh RZ) 7 (by omega)
      simp only [List.getElem?_cons_succ,List.getElem?_cons_zero,Nat.add_zero] at c0 c1 c2 c3 c4 c5 c6 c7
      obtain ⟨W3,hW3⟩:∃ W3,((((((((Z.setCell ⟨w.heap.size,k * 8,none⟩ (.int .i64 u.kind)).setCell ⟨w.heap.size,k * 8 + 1,none⟩ (.string u.attr)).setCell ⟨w.heap.size,k * 8 + 2,none⟩ (.slice u.qi u.ni u.ci)).setCell ⟨w.heap.size,k * 8 + 3,none⟩ (.slice u.qw u.nw u.cw)).setCell ⟨w.heap.size,k * 8 + 4,none⟩ (.int .i64 u.lo)).setCell ⟨w.heap.size,k * 8 + 5,none⟩ (.int .i64 u.hi)).setCell ⟨w.heap.size,k * 8 + 6,none⟩ (.int .i64 1)).setCell ⟨w.heap.size,k * 8 + 7,none⟩ (.slice none 0 0))=W3:=⟨_,rfl⟩
      have R3:W3.ownsRow (w.heap.size) 28 8 (.slice (some ⟨w.heap.size,0,none⟩) ls.length ls.length) ls.length ((flatK encV 8 us.toArray).toList ++ [.int .i64 u.kind,.string u.attr,.slice u.qi u.ni u.ci,.slice u.qw u.nw u.cw,.int .i64 u.lo,.int .i64 u.hi,.int .i64 1,.slice none 0 0] ++ cur.toList.drop (k * 8 + 8)):=by rw [← hW3];exact row8 z0 z1 z2 z3 z4 z5 z6 z7 _ _ _ _ _ _ _ _ (uh RZ) (by rw [flat_len8,uh HUS])
      have AG3:=hide (show Ags w.heap.size (w.heap.size + 1) wr W3 by rw [← hW3];exact ags8 (Ags.of bZ) _ (by omega) (by omega) _ _ _ _ _ _ _ _)
      have B3:=hide (show Below w.heap.size w W3 by rw [← hW3];exact set8b (g:=w.heap.size) (below_sub (uh HB) bZ) (by omega) _ _ _ _ _ _ _ _)
      have sz3:Z.heap.size=W3.heap.size:=by rw [← hW3];simp only [World.size_setCell]
      have n6:W3.cell? ⟨wr.heap.size,6,none⟩=some (.bool u.neg):=by
        rw [← hW3]
        exact (World.cell?_of_block (w:=Z) (a:=⟨wr.heap.size,6,none⟩) ((g8z Z w.heap.size (k * 8) _ _ _ _ _ _ _ _).block wr.heap.size (by omega) (fun e=>by have:=Option.some.inj e;omega))).trans h6
      have d0:=cell8 R3 0 (by omega)
      have d1:=cell8 R3 1 (by omega)
      have d2:=cell8 R3 2 (by omega)
      have d3:=cell8 R3 3 (by omega)
      have d4:=cell8 R3 4 (by omega)
      have d5:=cell8 R3 5 (by omega)
      have d6:=cell8 R3 6 (by omega)
      have d7:=cell8 R3 7 (by omega)
      simp only [List.getElem?_cons_succ,List.getElem?_cons_zero,Nat.add_zero] at d0 d1 d2 d3 d4 d5 d6 d7
      have f3:∀ o,W3.frozen? ⟨w.heap.size,o,none⟩=false:=ownsRow_free R3
      have HLF:=hide (NdSt.leaf (C:=w.heap.size + 1) hin (uh B3))
      have hng:u.neg=l.neg:=hin.2.2.2.2.2.2.1
      have HR3:=hide R3
      have HXX:=hide hx
      clear R3 hz bZ zk hin hx f0 f1 f2 f4 f5 f6
      cases hn:l.neg with
      | false =>
        rw [hng,hn] at n6
        have HLN:=hide (show litN l=.mk l.kind l.attr l.ints l.words l.lo l.hi 1 [] by unfold litN;rw [hn];rfl)
        clear hng hn
        go_wp2
        exact ⟨⟨k + 1,us ++ [⟨u.kind,u.attr,u.qi,u.ni,u.ci,u.qw,u.nw,u.cw,u.lo,u.hi,1,none,0,0⟩],by omega,by go_num,by rw [List.length_append,uh HUS];rfl,hide (by
          rw [flat_app encV 8 (by decide),flat_one8,Nat.add_mul,Nat.one_mul]
          exact uh HR3),B3,by omega,hide (snocN (uh HUS) (uh HXX) (fun j v x h1 h2=>((uh HSP) j v x h1 h2).step (uh AG3)) (by rw [uh HLN];exact uh HLF))⟩,by simp [intOf];omega⟩
      | true =>
        rw [hng,hn] at n6
        have HLN:=hide (show litN l=notT (.mk l.kind l.attr l.ints l.words l.lo l.hi 1 []) by unfold litN;rw [hn];rfl)
        have hNt:=not_any _ _ W3 (uh HLF W3 (Ags.refl _ _ _)) (by rw [uh HLN] at hlw;have:wtN (notT (.mk l.kind l.attr l.ints l.words l.lo l.hi 1 []))=wtN (.mk l.kind l.attr l.ints l.words l.lo l.hi 1 []) + 1:=(by have e:(⟨#[]⟩:ByteArray).size=0:=rfl;simp only [notT,wtN,wtL,wordsWt,List.length_nil,e];omega);omega)
        simp only [Nv.val] at hNt
        clear hng hn
        go_wp2_with (go_at_call 16;refine hNt.mono ?_;rintro e w4 ⟨⟨v4,rfl,n4⟩,b4⟩;simp only [Nv.val];have N4:=hide n4;have B4:=hide b4;have R4:=hide (row_below (uh HR3) b4);have f4:∀ o,w4.frozen? ⟨w.heap.size,o,none⟩=false:=ownsRow_free (uh R4);have e0:=cell8 (uh R4) 0 (by omega);have e1:=cell8 (uh R4) 1 (by omega);have e2:=cell8 (uh R4) 2 (by omega);have e3:=cell8 (uh R4) 3 (by omega);have e4:=cell8 (uh R4) 4 (by omega);have e5:=cell8 (uh R4) 5 (by omega);have e6:=cell8 (uh R4) 6 (by omega);have e7:=cell8 (uh R4) 7 (by omega);simp only [List.getElem?_cons_succ,List.getElem?_cons_zero,Nat.add_zero] at e0 e1 e2 e3 e4 e5 e6 e7;have s4:=b4.size;clear n4 b4)
        exact ⟨⟨k + 1,us ++ [v4],by omega,by go_num,by rw [List.length_append,uh HUS];rfl,hide (by
          rw [flat_app encV 8 (by decide),flat_one8,Nat.add_mul,Nat.one_mul]
          exact row8 _ _ _ _ _ _ _ _ _ _ _ _ _ _ _ _ (uh R4) (by rw [flat_len8,uh HUS])),hide (set8b (g:=w.heap.size) (below_sub (uh B3) (uh B4)) (by omega) _ _ _ _ _ _ _ _),by simp only [World.size_setCell];omega,hide (snocN (uh HUS) (uh HXX) (fun j v x h1 h2=>(((uh HSP) j v x h1 h2).step (uh AG3)).step (ags8 (Ags.of (uh B4)) _ (by omega) (by omega) _ _ _ _ _ _ _ _)) (by rw [uh HLN];exact (NdSt.from (uh N4) (by omega)).step (ags8 (Ags.refl _ _ _) _ (by omega) (by omega) _ _ _ _ _ _ _ _)))⟩,by simp [intOf];omega⟩
    · have hkl:k=ls.length:=by omega
      subst hkl
      have ki1:¬ (ls.length:Int) < (ls.length:Int):=by omega
      have R4:=uh RNr
      rw [List.drop_of_length_le (by have:=uh HCS;simp only [Array.length_toList];omega),List.append_nil] at R4
      have hO:OwnK encV 28 8 w.heap.size wr (some ⟨w.heap.size,0,none⟩) ls.length us:=by unfold OwnK;rw [uh HUS];exact R4
      have HO:=hide hO
      clear R4 hO
      go_wp2
      go_ret
      refine ⟨⟨some ⟨w.heap.size,0,none⟩,ls.length,rfl,us,(uh HO).ls,by rw [List.length_map,uh HUS],fun j v x hj hx=>?_⟩,uh HB⟩
      rw [List.getElem?_map] at hx
      obtain ⟨l,hl,rfl⟩:=Option.map_eq_some_iff.1 hx
      exact uh HSP j v l hj hl wr (Ags.refl _ _ _)
end Go.Proofs.Ytikhopiegaoacac

/- The members of a set: the closures and members. -/
import Derived.Test.YtencibjmiphinaaGreatDoorEPaTok
namespace Go.Proofs.YtencibjmiphinaaGreatDoor
open Go.RowKit
theorem of1 {w:World} {N:Nat} {a0:Value} {T:TypeId} (h:w.heap[N]? = some (.cells #[a0] T (0,0))):w.cell? ⟨N,0,none⟩=some a0/\(∀ o,w.frozen? ⟨N,o,none⟩=false)/\N < w.heap.size :=
 ⟨by unfold World.cell?;simp [h],fun o=>by unfold World.frozen?;simp [h],(Array.getElem?_eq_some_iff.1 h).1⟩
theorem set1 {w:World} {N:Nat} {a0:Value} {T:TypeId} (h:w.heap[N]? = some (.cells #[a0] T (0,0))) (v:Value):(w.setCell ⟨N,0,none⟩ v).heap[N]? = some (.cells #[v] T (0,0)):=by
 unfold World.setCell;simp only [Array.getElem?_modify,if_true,h];simp
theorem own_past {α:Type} [Inhabited α] {enc:α->List Value} {e:TypeId} {k bx:Nat} {w:World} {q:Option Addr} {c:Nat} {l:List α} (h:OwnK enc e k (bx + 1) w q c l) (v:Value):OwnK enc e k (bx + 1) (w.setCell ⟨bx,0,none⟩ v) q c l:=by
 refine World.ownsRow.kept h (row:=some bx) ⟨by simp [World.setCell],by simp [World.setCell],by simp [World.setCell],by simp [World.setCell],fun k hk hr=>Below.heap_setCell w ⟨bx,0,none⟩ _ k (fun e=>hr (by rw [e]))⟩ ?_
 cases e:(Value.slice q l.length c).ownBlock with
 | none=>exact Or.inl rfl
 | some b=>right;intro e2;have:=(World.ownsRow.lt h _ e).1;cases e2;omega
theorem oneS {w:World} {b:Nat} {x:ByteArray} (hb:b < w.heap.size) (h:w.cell? ⟨b,0,none⟩=some (.string x)):SrcK encS 1 w (some ⟨b,0,none⟩) 1 [x] :=
  LsOf.src (fun h => by cases h) (LsOf.one hb (fun c hc => by obtain rfl : c = 0 := by omega
                                                              exact h))
theorem oneI {w:World} {b:Nat} {x:Int} (hb:b < w.heap.size) (h:w.cell? ⟨b,0,none⟩=some (.int .i64 x)):SrcK encI 1 w (some ⟨b,0,none⟩) 1 [x] :=
  LsOf.src (fun h => by cases h) (LsOf.one hb (fun c hc => by obtain rfl : c = 0 := by omega
                                                              exact h))
/-- The box of the members so far, and their row. -/
def CbS (bx:Nat) (acc:List Tk) (W:World):Prop:=∃ q c,W.heap[bx]? = some (.cells #[.slice q acc.length c] 24 (0,0))/\OwnK encS 9 1 (bx + 1) W q c (acc.map (·.2.2.2.2))
theorem CbS.low {g bx:Nat} {acc:List Tk} {W w':World} (h:CbS bx acc W) (hg:W.grownBy w' (some g)) (hb:g < bx):CbS bx acc w':=by
 obtain ⟨q,c,h0,h1⟩:=h
 refine ⟨q,c,(hg.block bx (of1 h0).2.2 (fun e=>by cases e;omega)).trans h0,World.ownsRow.kept h1 hg ?_⟩
 cases e:(Value.slice q (acc.map (·.2.2.2.2)).length c).ownBlock with
 | none=>exact Or.inl rfl
 | some b=>right;intro e2;have:=(World.ownsRow.lt h1 _ e).1;cases e2;omega
theorem tellS (bx:Nat) (acc:List Tk) (t:Tk) (W:World) (h:CbS bx acc W) (hl:acc.length<=1000) :
  Calls Tryz.prog 169 #[tkV t,.pointer (some ⟨bx,0,none⟩)] W fun e w'=>e=.returned (.tuple #[])/\CbS bx (acc ++ [t]) w'/\Below bx W w':=by
 obtain ⟨q,c,h0,h1⟩:=h
 obtain ⟨c0,hf,hlt⟩:=of1 h0
 have hf0:=hf 0
 have hln:(acc.map (·.2.2.2.2)).length=acc.length:=by simp
 have H0:=hide h0
 have H1:=hide h1
 have HLN:=hide hln
 clear h0 h1 hf hln
 unfold tkV
 go_enter Tryz.func169,Tryz.ntmps169
 go_wp2_with (at_builtin;(refine wpList_app rowS rfl _ _ rfl (bx + 1) q c (acc.map (·.2.2.2.2)) (some ⟨W.heap.size + 1,0,none⟩) 1 [t.2.2.2.2] acc.length 1 (acc.length + 1) (uh HLN) rfl rfl rfl rfl ((uh H1).below (two_alloc _ _ _)) (oneS (by simp) (by go_simp)) (by unfold maxLen;omega) (by omega) (by simp;omega) ?_;intro q2 cap2 w2 hown2 hb2 _ hg2;have HO2:=hide hown2;have HB2:=hide hb2;have c2:w2.cell? ⟨bx,0,none⟩=some (.slice q acc.length c):=(hb2.cell (by simp)).trans (by go_simp);have f2:w2.frozen? ⟨bx,0,none⟩=false:=(hb2.frozen (by simp)).trans (by go_simp);have HG2:=hide hg2;clear hown2 hb2 hg2))
 have hB:=(two_alloc W (.cells #[.int .i64 t.1,.int .i64 t.2.1,.int .i64 t.2.2.1,.int .i64 t.2.2.2.1,.string t.2.2.2.2] 56) (.cells #[.string t.2.2.2.2] 9))
 have hx:w2.heap[bx]? = some (.cells #[.slice q acc.length c] 24 (0,0)):=((uh HB2).block bx (by omega)).trans ((hB.block bx hlt).trans (uh H0))
 exact ⟨rfl,.tuple #[],by simp [results,Tryz.results169,go_sem],rfl,⟨q2,cap2,by rw [List.length_append];exact set1 hx _,by rw [List.map_append];exact own_past (uh HO2) _⟩,((hB.mono (by omega)).trans ((uh HB2).mono (by omega))).setCell (by simp) _⟩
/-- The box of the members so far, and their row. -/
def CbI (bx:Nat) (acc:List Tk) (W:World):Prop:=∃ q c,W.heap[bx]? = some (.cells #[.slice q acc.length c] 23 (0,0))/\OwnK encI 3 1 (bx + 1) W q c (acc.map (·.2.2.2.1))
theorem CbI.low {g bx:Nat} {acc:List Tk} {W w':World} (h:CbI bx acc W) (hg:W.grownBy w' (some g)) (hb:g < bx):CbI bx acc w':=by
 obtain ⟨q,c,h0,h1⟩:=h
 refine ⟨q,c,(hg.block bx (of1 h0).2.2 (fun e=>by cases e;omega)).trans h0,World.ownsRow.kept h1 hg ?_⟩
 cases e:(Value.slice q (acc.map (·.2.2.2.1)).length c).ownBlock with
 | none=>exact Or.inl rfl
 | some b=>right;intro e2;have:=(World.ownsRow.lt h1 _ e).1;cases e2;omega
theorem tellI (bx:Nat) (acc:List Tk) (t:Tk) (W:World) (h:CbI bx acc W) (hl:acc.length<=1000) :
  Calls Tryz.prog 171 #[tkV t,.pointer (some ⟨bx,0,none⟩)] W fun e w'=>e=.returned (.tuple #[])/\CbI bx (acc ++ [t]) w'/\Below bx W w':=by
 obtain ⟨q,c,h0,h1⟩:=h
 obtain ⟨c0,hf,hlt⟩:=of1 h0
 have hf0:=hf 0
 have hln:(acc.map (·.2.2.2.1)).length=acc.length:=by simp
 have H0:=hide h0
 have H1:=hide h1
 have HLN:=hide hln
 clear h0 h1 hf hln
 unfold tkV
 go_enter Tryz.func171,Tryz.ntmps171
 go_wp2_with (at_builtin;(refine wpList_app rowI rfl _ _ rfl (bx + 1) q c (acc.map (·.2.2.2.1)) (some ⟨W.heap.size + 1,0,none⟩) 1 [t.2.2.2.1] acc.length 1 (acc.length + 1) (uh HLN) rfl rfl rfl rfl ((uh H1).below (two_alloc _ _ _)) (oneI (by simp) (by go_simp)) (by unfold maxLen;omega) (by omega) (by simp;omega) ?_;intro q2 cap2 w2 hown2 hb2 _ hg2;have HO2:=hide hown2;have HB2:=hide hb2;have c2:w2.cell? ⟨bx,0,none⟩=some (.slice q acc.length c):=(hb2.cell (by simp)).trans (by go_simp);have f2:w2.frozen? ⟨bx,0,none⟩=false:=(hb2.frozen (by simp)).trans (by go_simp);have HG2:=hide hg2;clear hown2 hb2 hg2))
 have hB:=(two_alloc W (.cells #[.int .i64 t.1,.int .i64 t.2.1,.int .i64 t.2.2.1,.int .i64 t.2.2.2.1,.string t.2.2.2.2] 56) (.cells #[.int .i64 t.2.2.2.1] 3))
 have hx:w2.heap[bx]? = some (.cells #[.slice q acc.length c] 23 (0,0)):=((uh HB2).block bx (by omega)).trans ((hB.block bx hlt).trans (uh H0))
 exact ⟨rfl,.tuple #[],by simp [results,Tryz.results171,go_sem],rfl,⟨q2,cap2,by rw [List.length_append];exact set1 hx _,by rw [List.map_append];exact own_past (uh HO2) _⟩,((hB.mono (by omega)).trans ((uh HB2).mono (by omega))).setCell (by simp) _⟩
end Go.Proofs.YtencibjmiphinaaGreatDoor
namespace Go.Proofs.YtencibjmiphinaaGreatDoor
open Go.RowKit
theorem Nx.low {g bx:Nat} {en:Int} {r:List Tk} {w0 W w':World} (h:Nx g en r w0 W) (hb:Below bx W w') (h0:w0.heap.size<=bx) (hg:g < bx):Nx g en r w0 w' :=
 ⟨h.1.low fun k hk=>hb.block k (by omega),⟨hb.os.trans h.2.os,hb.tape.trans h.2.tape,hb.output.trans h.2.output,Nat.le_trans h.2.size hb.size,fun k hk hr=>(hb.block k (by omega)).trans (h.2.block k hk hr)⟩⟩
theorem mbL_eb {en k:Int} {n:Nat} {acc l:List Tk} {p:Int} (h:skL ⟨#[44]⟩ l=none) (hq:sgL en ⟨#[125]⟩ l=.bad p):mbL en k (n + 1) acc l=.bad p:=by simp only [mbL,h,hq]
theorem mbL_eo {en k:Int} {n:Nat} {acc l r:List Tk} {u:Unit} (h:skL ⟨#[44]⟩ l=none) (hq:sgL en ⟨#[125]⟩ l=.ok u r):mbL en k (n + 1) acc l=.ok acc r:=by simp only [mbL,h,hq]
theorem mbL_full {en k:Int} {n:Nat} {acc l r:List Tk} (h:skL ⟨#[44]⟩ l=some r) (ha:acc.length=64):mbL en k (n + 1) acc l=.bad (plc en r):=by simp only [mbL,h,ha,if_true]
theorem mbL_bad {en k:Int} {n:Nat} {acc l r:List Tk} {p:Int} (h:skL ⟨#[44]⟩ l=some r) (ha:¬ acc.length=64) (hn:ndL en k r=.bad p):mbL en k (n + 1) acc l=.bad p:=by simp only [mbL,h,ha,if_false,hn]
theorem mbL_more {en k:Int} {n:Nat} {acc l r r':List Tk} {t:Tk} (h:skL ⟨#[44]⟩ l=some r) (ha:¬ acc.length=64) (hn:ndL en k r=.ok t r'):mbL en k (n + 1) acc l=mbL en k n (acc ++ [t]) r':=by simp only [mbL,h,ha,if_false,hn]
/-- The loop stands at l, the members so far are acc. -/
def At (en k:Int) (l0:List Tk) (acc l:List Tk):Prop:=∃ n,l.length<=n/\msL en k l0=mbL en k (n + 1) acc l
theorem At.first {en k:Int} {l r:List Tk} {t:Tk} (h:ndL en k l=.ok t r):At en k l [t] r:=⟨r.length,Nat.le_refl _,by unfold msL;rw [h]⟩
theorem At.more {en k:Int} {l0 acc l r r':List Tk} {t:Tk} (a:At en k l0 acc l) (h:skL ⟨#[44]⟩ l=some r) (ha:¬ acc.length=64) (hn:ndL en k r=.ok t r'):At en k l0 (acc ++ [t]) r':=by
 obtain ⟨n,h1,h2⟩:=a
 have e1:=skL_len h
 have e2:=ndL_len hn
 obtain ⟨m,rfl⟩:∃ m,n=m + 1:=⟨n - 1,by omega⟩
 exact ⟨m,by omega,h2.trans (mbL_more h ha hn)⟩
/-- What members leaves. -/
def MsS (g bx:Nat) (en:Int) (w0:World) (x:Rs (List Tk)) (e:Ending) (w':World):Prop:=match x with
  | .bad p=>e=refusal p/\w0.grownBy w' (some g)
  | .ok ts r=>e=.returned (.tuple #[])/\Nx g en r w0 w'/\CbS bx ts w'
set_option maxHeartbeats 2000000 in
theorem mbrsS (g bx:Nat) (en:Int) (l:List Tk) (w0 W:World) (hn:Nx g en l w0 W) (hc:CbS bx [] W) (hbx:w0.heap.size<=bx) (hg:g < bx) :
  Calls Tryz.prog 168 #[.pointer (some ⟨g,0,none⟩),.int .i64 3,.func (.func 169) #[] #[.pointer (some ⟨bx,0,none⟩)]] W fun e w'=>MsS g bx en w0 (msL en 3 l) e w':=by
 cases hd:ndL en 3 l with
 | bad p =>
  have hc1:=need_no g en 3 l p W hn.1 hd
  have hx:msL en 3 l=.bad p:=by unfold msL;rw [hd]
  rw [hx]
  have HG:=hide hn.2
  clear hn hc hd hx
  go_enter Tryz.func168,Tryz.ntmps168
  go_wp2_with (go_at_call 155;refine hc1.mono ?_;rintro e w' ⟨rfl,hb⟩;have HB:=hide hb;clear hb;simp only [refusal])
  exact ⟨rfl,rfl,(uh HG).trans (grown_bel (uh HB) _)⟩
 | ok t r =>
  have hc1:=need_yes g en 3 l r t W hn.1 hd
  have HA:=hide (At.first hd)
  have HN:=hide hn
  have HC:=hide hc
  clear hn hc hd
  go_enter Tryz.func168,Tryz.ntmps168
  go_wp2_with first
   | (go_at_call 155;refine hc1.mono ?_;rintro e w1 ⟨rfl,hx⟩;have HX:=hide hx;clear hx)
   | (go_at_call 169;refine (tellS bx [] t _ ((uh HC).low (uh HX).2 hg) (by simp)).mono ?_;rintro e w2 ⟨rfl,hy,hz⟩;have HY:=hide hy;have HZ:=hide hz;clear hy hz)
  have HN2:=hide (Nx.low ((uh HN).trans (uh HX)) (uh HZ) hbx hg)
  go_loopw [6] (fun v wr=>∃ (acc l1:List Tk),v=.int .i64 acc.length/\1<=acc.length/\acc.length<=64/\At en 3 l acc l1/\Nx g en l1 w0 wr/\CbS bx acc wr) (fun v _=>65 - (intOf v).toNat)
  case atStart=>exact ⟨[t],r,rfl,by simp,by simp,uh HA,uh HN2,uh HY⟩
  case round =>
   clear HA HN HC hc1 HX HY HZ HN2
   obtain ⟨acc,l1,rfl,ha1,ha2,hat,hnx,hcb⟩:=hrel
   have HAT:=hide hat
   have HNX:=hide hnx
   have HCB:=hide hcb
   clear hat hnx hcb
   cases hs:skL ⟨#[44]⟩ l1 with
   | none =>
    have hsk:=skip_no g en ⟨#[44]⟩ l1 wr (uh HNX).1 hs
    obtain ⟨n,hn1,hn2⟩:=uh HAT
    cases hq:sgL en ⟨#[125]⟩ l1 with
    | bad p =>
     have hsg:=sign_no g en ⟨#[125]⟩ l1 p wr (uh HNX).1 hq
     rw [mbL_eb hs hq] at hn2
     have HE:=hide hn2
     clear hs hq hn2 hn1
     go_wp2_with first
      | (go_at_call 119;refine hsk.mono ?_;rintro e w3 ⟨rfl,rfl⟩)
      | (go_at_call 140;refine hsg.mono ?_;rintro e w3 ⟨rfl,rfl⟩;simp only [refusal])
     exact ⟨rfl,by rw [uh HE];exact ⟨rfl,(uh HNX).2⟩⟩
    | ok u r2 =>
     have hsg:=sign_yes g en ⟨#[125]⟩ l1 r2 u wr (uh HNX).1 hq
     rw [mbL_eo hs hq] at hn2
     have HE:=hide hn2
     clear hs hq hn2 hn1
     go_wp2_with first
      | (go_at_call 119;refine hsk.mono ?_;rintro e w3 ⟨rfl,rfl⟩)
      | (go_at_call 140;refine hsg.mono ?_;rintro e w4 ⟨rfl,hx⟩;have HX:=hide hx;clear hx)
     exact ⟨rfl,.tuple #[],by simp [results,Tryz.results168,go_sem],by rw [uh HE];exact ⟨rfl,(uh HNX).trans (uh HX),(uh HCB).low (uh HX).2 hg⟩⟩
   | some r2 =>
    have hsk:=skip_yes g en ⟨#[44]⟩ l1 r2 wr (uh HNX).1 hs
    by_cases h64:acc.length=64
    ·obtain ⟨n,hn1,hn2⟩:=uh HAT
     rw [mbL_full hs h64] at hn2
     have HE:=hide hn2
     have h65:((acc.length:Int) == 64)=true:=by simp [h64]
     clear hs hn2 hn1
     go_wp2_with first
      | (go_at_call 119;refine hsk.mono ?_;rintro e w3 ⟨rfl,hx⟩;have HX:=hide hx;clear hx)
      | (go_at_call 53;refine (giveUp_any g en r2 _ (uh HX).1).mono ?_;rintro e w4 ⟨rfl,rfl⟩;simp only [refusal])
     exact ⟨rfl,by rw [uh HE];exact ⟨rfl,(uh HNX).2.trans (uh HX).2⟩⟩
    ·have h65:¬ ((acc.length:Int)=64):=by omega
     cases hd:ndL en 3 r2 with
     | bad p =>
      obtain ⟨n,hn1,hn2⟩:=uh HAT
      rw [mbL_bad hs h64 hd] at hn2
      have HE:=hide hn2
      have HD:=hide hd
      clear hs hn2 hn1 hd
      go_wp2_with first
       | (go_at_call 119;refine hsk.mono ?_;rintro e w3 ⟨rfl,hx⟩;have HX:=hide hx;clear hx)
       | (go_at_call 155;refine (need_no g en 3 r2 p _ (uh HX).1 (uh HD)).mono ?_;rintro e w4 ⟨rfl,hb⟩;have HB:=hide hb;clear hb;simp only [refusal])
      exact ⟨rfl,by rw [uh HE];exact ⟨rfl,((uh HNX).2.trans (uh HX).2).trans (grown_bel (uh HB) _)⟩⟩
     | ok t2 r3 =>
      have HAT2:=hide ((uh HAT).more hs h64 hd)
      have HD:=hide hd
      clear hs hd
      go_wp2_with first
       | (go_at_call 119;refine hsk.mono ?_;rintro e w3 ⟨rfl,hx⟩;have HX:=hide hx;clear hx)
       | (go_at_call 155;refine (need_yes g en 3 r2 r3 t2 _ (uh HX).1 (uh HD)).mono ?_;rintro e w4 ⟨rfl,hx⟩;have HX4:=hide hx;clear hx)
       | (go_at_call 169;refine (tellS bx acc t2 _ (((uh HCB).low (uh HX).2 hg).low (uh HX4).2 hg) (by omega)).mono ?_;rintro e w5 ⟨rfl,hy,hz⟩;have HY:=hide hy;have HZ:=hide hz;clear hy hz)
      exact ⟨⟨acc ++ [t2],r3,by simp,by simp,by simp;omega,uh HAT2,Nx.low (((uh HNX).trans (uh HX)).trans (uh HX4)) (uh HZ) hbx hg,uh HY⟩,by simp [intOf];omega⟩
/-- What members leaves. -/
def MsI (g bx:Nat) (en:Int) (w0:World) (x:Rs (List Tk)) (e:Ending) (w':World):Prop:=match x with
  | .bad p=>e=refusal p/\w0.grownBy w' (some g)
  | .ok ts r=>e=.returned (.tuple #[])/\Nx g en r w0 w'/\CbI bx ts w'
set_option maxHeartbeats 2000000 in
theorem mbrsI (g bx:Nat) (en:Int) (l:List Tk) (w0 W:World) (hn:Nx g en l w0 W) (hc:CbI bx [] W) (hbx:w0.heap.size<=bx) (hg:g < bx) :
  Calls Tryz.prog 168 #[.pointer (some ⟨g,0,none⟩),.int .i64 2,.func (.func 171) #[] #[.pointer (some ⟨bx,0,none⟩)]] W fun e w'=>MsI g bx en w0 (msL en 2 l) e w':=by
 cases hd:ndL en 2 l with
 | bad p =>
  have hc1:=need_no g en 2 l p W hn.1 hd
  have hx:msL en 2 l=.bad p:=by unfold msL;rw [hd]
  rw [hx]
  have HG:=hide hn.2
  clear hn hc hd hx
  go_enter Tryz.func168,Tryz.ntmps168
  go_wp2_with (go_at_call 155;refine hc1.mono ?_;rintro e w' ⟨rfl,hb⟩;have HB:=hide hb;clear hb;simp only [refusal])
  exact ⟨rfl,rfl,(uh HG).trans (grown_bel (uh HB) _)⟩
 | ok t r =>
  have hc1:=need_yes g en 2 l r t W hn.1 hd
  have HA:=hide (At.first hd)
  have HN:=hide hn
  have HC:=hide hc
  clear hn hc hd
  go_enter Tryz.func168,Tryz.ntmps168
  go_wp2_with first
   | (go_at_call 155;refine hc1.mono ?_;rintro e w1 ⟨rfl,hx⟩;have HX:=hide hx;clear hx)
   | (go_at_call 171;refine (tellI bx [] t _ ((uh HC).low (uh HX).2 hg) (by simp)).mono ?_;rintro e w2 ⟨rfl,hy,hz⟩;have HY:=hide hy;have HZ:=hide hz;clear hy hz)
  have HN2:=hide (Nx.low ((uh HN).trans (uh HX)) (uh HZ) hbx hg)
  go_loopw [6] (fun v wr=>∃ (acc l1:List Tk),v=.int .i64 acc.length/\1<=acc.length/\acc.length<=64/\At en 2 l acc l1/\Nx g en l1 w0 wr/\CbI bx acc wr) (fun v _=>65 - (intOf v).toNat)
  case atStart=>exact ⟨[t],r,rfl,by simp,by simp,uh HA,uh HN2,uh HY⟩
  case round =>
   clear HA HN HC hc1 HX HY HZ HN2
   obtain ⟨acc,l1,rfl,ha1,ha2,hat,hnx,hcb⟩:=hrel
   have HAT:=hide hat
   have HNX:=hide hnx
   have HCB:=hide hcb
   clear hat hnx hcb
   cases hs:skL ⟨#[44]⟩ l1 with
   | none =>
    have hsk:=skip_no g en ⟨#[44]⟩ l1 wr (uh HNX).1 hs
    obtain ⟨n,hn1,hn2⟩:=uh HAT
    cases hq:sgL en ⟨#[125]⟩ l1 with
    | bad p =>
     have hsg:=sign_no g en ⟨#[125]⟩ l1 p wr (uh HNX).1 hq
     rw [mbL_eb hs hq] at hn2
     have HE:=hide hn2
     clear hs hq hn2 hn1
     go_wp2_with first
      | (go_at_call 119;refine hsk.mono ?_;rintro e w3 ⟨rfl,rfl⟩)
      | (go_at_call 140;refine hsg.mono ?_;rintro e w3 ⟨rfl,rfl⟩;simp only [refusal])
     exact ⟨rfl,by rw [uh HE];exact ⟨rfl,(uh HNX).2⟩⟩
    | ok u r2 =>
     have hsg:=sign_yes g en ⟨#[125]⟩ l1 r2 u wr (uh HNX).1 hq
     rw [mbL_eo hs hq] at hn2
     have HE:=hide hn2
     clear hs hq hn2 hn1
     go_wp2_with first
      | (go_at_call 119;refine hsk.mono ?_;rintro e w3 ⟨rfl,rfl⟩)
      | (go_at_call 140;refine hsg.mono ?_;rintro e w4 ⟨rfl,hx⟩;have HX:=hide hx;clear hx)
     exact ⟨rfl,.tuple #[],by simp [results,Tryz.results168,go_sem],by rw [uh HE];exact ⟨rfl,(uh HNX).trans (uh HX),(uh HCB).low (uh HX).2 hg⟩⟩
   | some r2 =>
    have hsk:=skip_yes g en ⟨#[44]⟩ l1 r2 wr (uh HNX).1 hs
    by_cases h64:acc.length=64
    ·obtain ⟨n,hn1,hn2⟩:=uh HAT
     rw [mbL_full hs h64] at hn2
     have HE:=hide hn2
     have h65:((acc.length:Int) == 64)=true:=by simp [h64]
     clear hs hn2 hn1
     go_wp2_with first
      | (go_at_call 119;refine hsk.mono ?_;rintro e w3 ⟨rfl,hx⟩;have HX:=hide hx;clear hx)
      | (go_at_call 53;refine (giveUp_any g en r2 _ (uh HX).1).mono ?_;rintro e w4 ⟨rfl,rfl⟩;simp only [refusal])
     exact ⟨rfl,by rw [uh HE];exact ⟨rfl,(uh HNX).2.trans (uh HX).2⟩⟩
    ·have h65:¬ ((acc.length:Int)=64):=by omega
     cases hd:ndL en 2 r2 with
     | bad p =>
      obtain ⟨n,hn1,hn2⟩:=uh HAT
      rw [mbL_bad hs h64 hd] at hn2
      have HE:=hide hn2
      have HD:=hide hd
      clear hs hn2 hn1 hd
      go_wp2_with first
       | (go_at_call 119;refine hsk.mono ?_;rintro e w3 ⟨rfl,hx⟩;have HX:=hide hx;clear hx)
       | (go_at_call 155;refine (need_no g en 2 r2 p _ (uh HX).1 (uh HD)).mono ?_;rintro e w4 ⟨rfl,hb⟩;have HB:=hide hb;clear hb;simp only [refusal])
      exact ⟨rfl,by rw [uh HE];exact ⟨rfl,((uh HNX).2.trans (uh HX).2).trans (grown_bel (uh HB) _)⟩⟩
     | ok t2 r3 =>
      have HAT2:=hide ((uh HAT).more hs h64 hd)
      have HD:=hide hd
      clear hs hd
      go_wp2_with first
       | (go_at_call 119;refine hsk.mono ?_;rintro e w3 ⟨rfl,hx⟩;have HX:=hide hx;clear hx)
       | (go_at_call 155;refine (need_yes g en 2 r2 r3 t2 _ (uh HX).1 (uh HD)).mono ?_;rintro e w4 ⟨rfl,hx⟩;have HX4:=hide hx;clear hx)
       | (go_at_call 171;refine (tellI bx acc t2 _ (((uh HCB).low (uh HX).2 hg).low (uh HX4).2 hg) (by omega)).mono ?_;rintro e w5 ⟨rfl,hy,hz⟩;have HY:=hide hy;have HZ:=hide hz;clear hy hz)
      exact ⟨⟨acc ++ [t2],r3,by simp,by simp,by simp;omega,uh HAT2,Nx.low (((uh HNX).trans (uh HX)).trans (uh HX4)) (uh HZ) hbx hg,uh HY⟩,by simp [intOf];omega⟩
end Go.Proofs.YtencibjmiphinaaGreatDoor

/- The fixed texts, plain. -/
import Derived.Test.YtdgoibnndfibnaaGreatDoorRS32
import Derived.Test.YtdgoibnndfibnaaGreatDoorRSBase
namespace Go.Proofs.YtdgoibnndfibnaaGreatDoor
open Go.RowKit Go.Sort
def fxC:Cfg:=⟨9,9,9,9,2,1,1,2⟩
def fxS:Scr:=⟨fxC,[(⟨#[97]⟩,1)],[⟨1,0,1,0,⟨#[97,32,123,49,125]⟩,[],[]⟩,⟨2,0,0,0,⟨#[]⟩,[],[0,-1]⟩,⟨6,0,0,0,⟨#[]⟩,[],[]⟩]⟩
def fxT:Bs:=[99,111,110,102,105,103,32,57,32,57,32,57,32,57,32,50,32,49,32,49,32,50,10,97,116,116,114,32,97,32,105,110,116,10,99,97,108,108,32,48,32,115,117,98,32,34,97,32,123,49,125,34,10,115,116,101,112,32,48,32,45,49,10,99,114,97,115,104,10]
def fxU:Bs:=[99,111,110,102,105,103,32,57,32,57,32,57,32,57,32,50,32,49,32,49,32,50,10,100,114,97,105,110,32,10]
theorem fxS_text:scrB fxS=fxT:=by kernel_rfl
theorem fxS_ok:ScrOk fxS:=⟨⟨by decide,by kernel_rfl,by decide⟩,by decide,by kernel_rfl⟩
theorem fxS_I:ScrI fxS:=⟨by intro n hn;simp only [fxS,fxC,Cfg.l,List.mem_cons,List.not_mem_nil,or_false] at hn;rcases hn with rfl | rfl | rfl | rfl | rfl | rfl | rfl | rfl <;> exact ⟨by decide,by decide⟩,by
 intro o ho
 simp only [fxS,List.mem_cons,List.not_mem_nil,or_false] at ho
 rcases ho with rfl | rfl | rfl
 ·exact ⟨⟨by decide,by decide⟩,⟨by decide,by decide⟩,by intro n hn;simp at hn⟩
 ·refine ⟨⟨by decide,by decide⟩,⟨by decide,by decide⟩, ?_⟩
  intro n hn
  simp only [List.mem_cons,List.not_mem_nil,or_false] at hn
  rcases hn with rfl | rfl <;> exact ⟨by decide,by decide⟩
 ·exact ⟨⟨by decide,by decide⟩,⟨by decide,by decide⟩,by intro n hn;simp at hn⟩⟩
theorem fx_read:readS fxT=(0,some fxS):=by
 rw [<- fxS_text]
 exact read_scr fxS_ok fxS_I
theorem fx_bad:readS fxU=(2,none):=by
 show readFrom 1 scr0 fxU=(2,none)
 have c1:cut10 fxU=some ([99,111,110,102,105,103,32,57,32,57,32,57,32,57,32,50,32,49,32,49,32,50],[100,114,97,105,110,32,10]):=by kernel_rfl
 have e1:([99,111,110,102,105,103,32,57,32,57,32,57,32,57,32,50,32,49,32,49,32,50]:Bs)=cfgB fxC:=by kernel_rfl
 have a1:addS scr0 1 [99,111,110,102,105,103,32,57,32,57,32,57,32,57,32,50,32,49,32,49,32,50]=some ⟨fxC,[],[]⟩:=by
  rw [e1]
  unfold addS
  rw [if_pos rfl,rdCfg_back (c:=fxC) fxS_I.cfg,if_pos rfl]
  rfl
 rw [readFrom_step c1 a1]
 have c2:cut10 [100,114,97,105,110,32,10]=some ([100,114,97,105,110,32],[]):=by kernel_rfl
 have w2:nextW [100,114,97,105,110,32]=([100,114,97,105,110],[]):=by kernel_rfl
 have r2:rdOp [100,114,97,105,110] []=⟨3,0,0,0,⟨#[]⟩,[],[]⟩:=by
  unfold rdOp
  rw [show kindOfW opW 7 [100,114,97,105,110]=3 by kernel_rfl]
  rfl
 have a2:addS ⟨fxC,[],[]⟩ 2 [100,114,97,105,110,32]=none:=by
  unfold addS
  rw [if_neg (by decide),w2]
  simp only
  rw [if_neg (by decide),r2,if_neg (fun h=>absurd h.2.2 (by decide))]
 exact readFrom_bad c2 a2
theorem fxS_len:(scrB fxS).length=69:=by rw [fxS_text];rfl
theorem fxS_line:lineB ⟨2,0,0,0,⟨#[]⟩,[],[0,-1]⟩=[115,116,101,112,32,48,32,45,49]:=by kernel_rfl
end Go.Proofs.YtdgoibnndfibnaaGreatDoor
namespace Go.Proofs.YtdgoibnndfibnaaGreatDoor
open Go.RowKit Go.Sort
theorem fx_parse1 (w:World) (hG:G w) (text:ByteArray) (ht:text=⟨fxT.toArray⟩):Calls Tryz.prog 18 #[.string text] w fun e w'=>(∃ (qa:Option Addr) (ca:Nat) (qo:Option Addr) (co:Nat) (u0 u1 u2:Ou),e=.returned (.tuple #[.agg #[.int .i64 9,.int .i64 9,.int .i64 9,.int .i64 9,.int .i64 2,.int .i64 1,.int .i64 1,.int .i64 2,.slice qa 1 ca,.slice qo 3 co],.int .i64 0,.int .i64 0])/\TxIn w' qa ca qo co [u0,u1,u2] fxS)/\Below w.heap.size w w':=by
 refine (parseScr_any fxT w hG (by decide) text ht).mono ?_
 rintro e w' ⟨h,hb⟩
 refine ⟨?_,hb⟩
 rcases h with ⟨s,hs,qa,ca,qo,co,us,rfl,hr⟩ | ⟨n,hn,_⟩
 ·rw [fx_read] at hs
  injection hs with _ hs
  injection hs with hs
  subst hs
  have hl:us.length=3:=hr.ops.1
  match us,hl with
  | [u0,u1,u2],_=>exact ⟨qa,ca,qo,co,u0,u1,u2,rfl,hr.tx⟩
 ·rw [fx_read] at hn
  injection hn with _ hn
  cases hn
theorem fx_parse2 (w:World) (hG:G w) (text:ByteArray) (ht:text=⟨fxU.toArray⟩):Calls Tryz.prog 18 #[.string text] w fun e w'=>e=.returned (.tuple #[.agg #[.int .i64 0,.int .i64 0,.int .i64 0,.int .i64 0,.int .i64 0,.int .i64 0,.int .i64 0,.int .i64 0,.slice none 0 0,.slice none 0 0],.int .i64 2,.int .i64 10])/\Below w.heap.size w w':=by
 refine (parseScr_any fxU w hG (by decide) text ht).mono ?_
 rintro e w' ⟨h,hb⟩
 refine ⟨?_,hb⟩
 rcases h with ⟨s,hs,_⟩ | ⟨n,hn,rfl⟩
 ·rw [fx_bad] at hs
  injection hs with hs _
  cases hs
 ·rw [fx_bad] at hn
  injection hn with hn _
  subst hn
  rfl
theorem fxS_Z:∀ o ∈ fxS.ops,OpZ o:=by
 intro o ho
 simp only [fxS,List.mem_cons,List.not_mem_nil,or_false] at ho
 rcases ho with rfl | rfl | rfl <;> (unfold OpZ;decide)
theorem fx_op (W:World) (u:Ou) (hu:OpIn W u ⟨2,0,0,0,⟨#[]⟩,[],[0,-1]⟩) (hG:G W):Calls Tryz.prog 13 #[.agg #[.int .i64 u.kind,.int .i64 u.who,.int .i64 u.ck,.int .i64 u.id,.string u.text,.slice u.qe u.ne u.ce,.slice u.qn 2 u.cn]] W fun e w'=>e=.returned (.tuple #[.string ⟨#[115,116,101,112,32,48,32,45,49]⟩,.int .i64 0])/\Below W.heap.size W w':=by
 have h:=op_any hu (fxS_I.ops _ (by simp [fxS])) hG (fxS_Z _ (by simp [fxS]))
 have hok:opOk ⟨2,0,0,0,⟨#[]⟩,[],[0,-1]⟩=true:=by kernel_rfl
 rw [show opE ⟨2,0,0,0,⟨#[]⟩,[],[0,-1]⟩=0 by unfold opE;rw [if_pos hok],show opL ⟨2,0,0,0,⟨#[]⟩,[],[0,-1]⟩=⟨#[115,116,101,112,32,48,32,45,49]⟩ by unfold opL;rw [if_pos hok,fxS_line]] at h
 unfold Ou.val at h
 rw [show u.nn=2 from hu.nn] at h
 exact h
theorem fx_text (W:World) (hG:G W) (qa:Option Addr) (ca:Nat) (qo:Option Addr) (co:Nat) (u0 u1 u2:Ou) (h:TxIn W qa ca qo co [u0,u1,u2] fxS):Calls Tryz.prog 11 #[.agg #[.int .i64 9,.int .i64 9,.int .i64 9,.int .i64 9,.int .i64 2,.int .i64 1,.int .i64 1,.int .i64 2,.slice qa 1 ca,.slice qo 3 co]] W fun e w'=>(∃ J:ByteArray,J.size=69/\e=.returned (.tuple #[.string J,.int .i64 0]))/\Below W.heap.size W w':=by
 have h:=text_scr W hG qa ca qo co [u0,u1,u2] fxS h fxS_I fxS_Z (by decide) (by decide) (fun _=>by rw [fxS_text];decide)
 rw [show txL fxS=⟨fxT.toArray⟩ by unfold txL;rw [if_pos fxS_ok,fxS_text],show txE fxS=0 by unfold txE;rw [if_pos fxS_ok]] at h
 have hz:(⟨fxT.toArray⟩:ByteArray).size=69:=by rw [ba_size,<- fxS_text];exact fxS_len
 exact h.mono fun e w' ⟨h1,h2⟩=>⟨⟨_,hz,h1⟩,h2⟩
theorem fxS_OZ:OpsZ fxS.ops:=by
 intro o ho
 simp only [fxS,List.mem_cons,List.not_mem_nil,or_false] at ho
 rcases ho with rfl | rfl | rfl <;> decide
theorem fx_same (W:World) (qa:Option Addr) (ca:Nat) (qo:Option Addr) (co:Nat) (u0 u1 u2:Ou) (h:TxIn W qa ca qo co [u0,u1,u2] fxS):Calls Tryz.prog 21 #[.agg #[.int .i64 9,.int .i64 9,.int .i64 9,.int .i64 9,.int .i64 2,.int .i64 1,.int .i64 1,.int .i64 2,.slice qa 1 ca,.slice qo 3 co],.agg #[.int .i64 9,.int .i64 9,.int .i64 9,.int .i64 9,.int .i64 2,.int .i64 1,.int .i64 1,.int .i64 2,.slice qa 1 ca,.slice qo 3 co]] W fun e w'=>e=.returned (.bool true)/\Below W.heap.size W w':=by
 have h:=same_scr W qa ca qo co [u0,u1,u2] fxS qa ca qo co [u0,u1,u2] fxS h h (by decide) (by simp) fxS_OZ
 rw [sameB_refl] at h
 exact h
theorem fx_diff (W:World) (qa:Option Addr) (ca:Nat) (qo:Option Addr) (co:Nat) (u0 u1 u2:Ou) (h:TxIn W qa ca qo co [u0,u1,u2] fxS):Calls Tryz.prog 21 #[.agg #[.int .i64 9,.int .i64 9,.int .i64 9,.int .i64 9,.int .i64 2,.int .i64 1,.int .i64 1,.int .i64 2,.slice qa 1 ca,.slice qo 3 co],.agg #[.int .i64 0,.int .i64 0,.int .i64 0,.int .i64 0,.int .i64 0,.int .i64 0,.int .i64 0,.int .i64 0,.slice none 0 0,.slice none 0 0]] W fun e w'=>e=.returned (.bool false)/\Below W.heap.size W w':=by
 have h:=same_scr W qa ca qo co [u0,u1,u2] fxS none 0 none 0 [] scr0 h ⟨SlOf.none _,SlOf.none _,rfl,fun j u o h1 _=>by simp at h1⟩ (by decide) (by simp) fxS_OZ
 rw [show sameB fxS scr0=false by decide] at h
 exact h
set_option maxHeartbeats 16000000 in
set_option maxRecDepth 100000 in
theorem fixed_any (w:World) (hG:G w):Calls Tryz.prog 9 #[] w fun e w'=>e=.returned (.bool true)/\Below w.heap.size w w':=by
 have HG:=hide hG
 have F1:=hide fx_parse1
 have F2:=hide fx_parse2
 have F3:=hide fx_op
 have F4:=hide fx_text
 have F5:=hide fx_same
 have F6:=hide fx_diff
 clear hG
 go_enter Tryz.func9,Tryz.ntmps9
 go_wp2_with (first
  | (go_at_call 21;refine (uh F6 _ _ _ _ _ u0 u1 u2 (uh TX7)).mono ?_;rintro e w8 ⟨rfl,bb⟩;have TX8:=hide ((uh TX7).below bb);have HB8:=hide (blk_onS (uh HB7) bb);have B8:=hide (below_tr (uh B7) (bb.mono (uh B7).size));clear x0 x1 x2 x3 x4 x5 x6 x7 x8 x9;obtain ⟨x0,x1,x2,x3,x4,x5,x6,x7,x8,x9,xf⟩:=of10z (uh HB8);clear bb xf)
  | (go_at_call 21;refine (uh F5 _ _ _ _ _ u0 u1 u2 (uh TX6)).mono ?_;rintro e w7 ⟨rfl,bb⟩;have TX7:=hide ((uh TX6).below bb);have HB7:=hide (blk_onS (uh HB6) bb);have B7:=hide (below_tr (uh B6) (bb.mono (uh B6).size));clear x0 x1 x2 x3 x4 x5 x6 x7 x8 x9;obtain ⟨x0,x1,x2,x3,x4,x5,x6,x7,x8,x9,xf⟩:=of10z (uh HB7);clear bb xf)
  | (go_at_call 11;refine (uh F4 _ (G_below (uh HG) (uh B5)) _ _ _ _ u0 u1 u2 (uh TX5)).mono ?_;rintro e w6 ⟨⟨J,hJ,rfl⟩,bb⟩;have TX6:=hide ((uh TX5).below bb);have HB6:=hide (blk_onS (uh HB5) bb);have B6:=hide (below_tr (uh B5) (bb.mono (uh B5).size));clear x0 x1 x2 x3 x4 x5 x6 x7 x8 x9;obtain ⟨x0,x1,x2,x3,x4,x5,x6,x7,x8,x9,xf⟩:=of10z (uh HB6);clear bb xf)
  | (go_at_call 13;refine (uh F3 _ u1 ((uh TX2).ops 1 u1 _ rfl rfl) (G_below (uh HG) (uh B2))).mono ?_;rintro e w5 ⟨rfl,bb⟩;have TX5:=hide ((uh TX2).below bb);have HB5:=hide (blk_onS (uh HB2) bb);have B5:=hide (below_tr (uh B2) (bb.mono (uh B2).size));clear x0 x1 x2 x3 x4 x5 x6 x7 x8 x9;obtain ⟨x0,x1,x2,x3,x4,x5,x6,x7,x8,x9,xf⟩:=of10z (uh HB5);clear bb xf)
  | (go_at_call 18;refine (uh F2 _ (G_below (uh HG) (uh B1)) _ (by kernel_rfl)).mono ?_;rintro e w2 ⟨rfl,b2⟩;have bY2:Below w2.heap.size w2 (w2.alloc (.cells #[.int .i64 0,.int .i64 0,.int .i64 0,.int .i64 0,.int .i64 0,.int .i64 0,.int .i64 0,.int .i64 0,.slice none 0 0,.slice none 0 0] 29)):=(Below.refl w2.heap.size w2).alloc (Nat.le_refl _) _;have c2:=below_sub b2 bY2;have TXw:=hide ((uh TX).below b2);have hw2:=blk_onS (uh HYB) b2;have zl:w1.heap.size < w2.heap.size:=heap_lt hw2;have zn:¬ w2.heap.size=w1.heap.size:=(by omega);have zm:¬ w1.heap.size=w2.heap.size:=(by omega);have TX2:=hide ((uh TX).below c2);have HB2:=hide (blk_onS (uh HYB) c2);have B2:=hide (below_tr (uh B1) (c2.mono (uh B1).size));obtain ⟨x0,x1,x2,x3,x4,x5,x6,x7,x8,x9,xf⟩:=of10z hw2;obtain ⟨ob,oo,hq0,hob,a0,a1,a2,a3,a4,a5,a6⟩:=opsAt (j:=0) (u:=u0) (uh TXw).op rfl;obtain ⟨ob',oo',hq1,hob',b0,b1,b2',b3,b4,b5,b6⟩:=opsAt (j:=1) (u:=u1) (uh TXw).op rfl;rw [show u0.text=⟨#[97,32,123,49,125]⟩ from ((uh TX2).ops 0 u0 _ rfl rfl).text] at a4;rw [show u1.nn=2 from ((uh TX2).ops 1 u1 _ rfl rfl).nn] at b6;rw [hq0] at hq1;injection hq1 with hq1;injection hq1 with e1 e2 e3;rw [<- e1,<- e2] at b0 b1 b2' b3 b4 b5 b6;rw [hq0] at x9;have on1:¬ ob=w2.heap.size:=(by omega);have on2:¬ w2.heap.size=ob:=(by omega);clear e1 e2 e3 hob' b2 bY2 c2 xf hw2 hq0)
  | (go_at_call 18;refine (uh F1 _ (uh HG) _ (by kernel_rfl)).mono ?_;rintro e w1 ⟨⟨qa,ca,qo,co,u0,u1,u2,rfl,tx⟩,b1⟩;obtain ⟨Y,HY⟩:∃ Y,w1.alloc (.cells #[.int .i64 9,.int .i64 9,.int .i64 9,.int .i64 9,.int .i64 2,.int .i64 1,.int .i64 1,.int .i64 2,.slice qa 1 ca,.slice qo 3 co] 29)=Y:=⟨_,rfl⟩;have bY:Below w1.heap.size w1 Y:=(by rw [<- HY];exact (Below.refl _ _).alloc (Nat.le_refl _) _);have hY:Y.heap[w1.heap.size]? = some (.cells #[.int .i64 9,.int .i64 9,.int .i64 9,.int .i64 9,.int .i64 2,.int .i64 1,.int .i64 1,.int .i64 2,.slice qa 1 ca,.slice qo 3 co] 29 (0,0)):=(by rw [<- HY];exact box_new _ _);have TX:=hide (tx.below bY);have B1:=hide (below_sub b1 bY);have HYB:=hide hY;clear tx b1 bY hY))
 go_ret
 exact ⟨rfl,uh B8⟩
end Go.Proofs.YtdgoibnndfibnaaGreatDoor
namespace Go.Proofs.YtdgoibnndfibnaaGreatDoor
open Go.RowKit Go.Sort
end Go.Proofs.YtdgoibnndfibnaaGreatDoor
namespace Go.Proofs.YtdgoibnndfibnaaGreatDoor
open Go.RowKit Go.Sort
theorem opL_ok {o:Sop} (h:opOk o=true):opL o=⟨(lineB o).toArray⟩:=by unfold opL;rw [if_pos h]
theorem opE_ok {o:Sop} (h:opOk o=true):opE o=0:=by unfold opE;rw [if_pos h]
theorem opL_no {o:Sop} (h:opOk o=false):opL o=⟨#[]⟩:=by unfold opL;rw [h];rfl
theorem opE_no {o:Sop} (h:opOk o=false):opE o=1:=by unfold opE;rw [h];rfl
end Go.Proofs.YtdgoibnndfibnaaGreatDoor
namespace Go.Proofs.YtdgoibnndfibnaaGreatDoor
open Go.RowKit Go.Sort
theorem LsOf.take {α:Type} [Inhabited α] {enc:α->List Value} {k:Nat} {w:World} {q:Option Addr} {l m:List α} (hk:0 < k) (h:LsOf enc k w q (l ++ m)):LsOf enc k w q l:=fun h0=>by
 obtain ⟨b,off,hq,hb,hA⟩:=h (by simp;omega)
 refine ⟨b,off,hq,hb,fun j u hj=>hA j u ?_⟩
 rw [flat_app enc k hk,List.getElem?_append_left (List.getElem?_eq_some_iff.1 hj).1];exact hj
theorem OwnI {B:Nat} {w:World} {q:Option Addr} {cap:Nat} {l:List Int} (h:OwnK encI 3 1 B w q cap (l ++ [-77,-78])):∃ g,q=some ⟨g,0,none⟩:=by
 rcases h.2 with ⟨h0,_⟩ | ⟨g,cp,cur,hv,_⟩
 ·injection h0 with _ h1;simp at h1
 ·injection hv with h1;exact ⟨g,h1⟩
def spI:List Int:=[-77,-78]
/-- The pair that marks the spare room. -/
def spP:Pq:=⟨⟨#[115,112,97,114,101]⟩,0,0,⟨#[]⟩⟩
theorem OwnP {B:Nat} {w:World} {q:Option Addr} {cap:Nat} {l:List Pq} (h:OwnK encQ 78 4 B w q cap (l ++ [spP])):∃ g,q=some ⟨g,0,none⟩:=by
 rcases h.2 with ⟨h0,_⟩ | ⟨g,cp,cur,hv,_⟩
 ·injection h0 with _ h1;simp at h1
 ·injection hv with h1;exact ⟨g,h1⟩
end Go.Proofs.YtdgoibnndfibnaaGreatDoor
namespace Go.Proofs.YtdgoibnndfibnaaGreatDoor
open Go.RowKit Go.Sort
theorem of7z {W:World} {b:Nat} {a0 a1 a2 a3 a4 a5 a6:Value} {T:TypeId} (h:W.heap[b]? = some (.cells #[a0,a1,a2,a3,a4,a5,a6] T (0,0))):W.cell? ⟨b,0,none⟩=some a0/\W.cell? ⟨b,1,none⟩=some a1/\W.cell? ⟨b,2,none⟩=some a2/\W.cell? ⟨b,3,none⟩=some a3/\W.cell? ⟨b,4,none⟩=some a4/\W.cell? ⟨b,5,none⟩=some a5/\W.cell? ⟨b,6,none⟩=some a6/\∀ o,W.frozen? ⟨b,o,none⟩=false:=by
 obtain ⟨x0,x1,x2,x3,x4,x5,x6⟩:=of7s h
 exact ⟨x0,x1,x2,x3,x4,x5,x6,fun o=>frozen_free h⟩
theorem set7_6 {W:World} {b:Nat} {a0 a1 a2 a3 a4 a5 a6:Value} {T:TypeId} (h:W.heap[b]? = some (.cells #[a0,a1,a2,a3,a4,a5,a6] T (0,0))) (v:Value):(W.setCell ⟨b,6,none⟩ v).heap[b]? = some (.cells #[a0,a1,a2,a3,a4,a5,v] T (0,0)):=by
 simp [World.setCell,Array.getElem?_modify,h]
theorem set10_9 {W:World} {b:Nat} {a0 a1 a2 a3 a4 a5 a6 a7 a8 a9:Value} {T:TypeId} (h:W.heap[b]? = some (.cells #[a0,a1,a2,a3,a4,a5,a6,a7,a8,a9] T (0,0))) (v:Value):(W.setCell ⟨b,9,none⟩ v).heap[b]? = some (.cells #[a0,a1,a2,a3,a4,a5,a6,a7,a8,v] T (0,0)):=by
 simp [World.setCell,Array.getElem?_modify,h]
/-- A copy of an op: rows of its own, marked room behind each. -/
structure OpCp (B:Nat) (w:World) (u:Ou) (o:Sop):Prop where
  kind:u.kind=o.kind
  who:u.who=o.who
  ck:u.ck=o.ck
  id:u.id=o.id
  text:u.text=o.text
  ne:u.ne=o.ev.length
  nn:u.nn=o.nums.length
  ev:OwnK encQ 78 4 B w u.qe u.ce (o.ev ++ [spP])
  nums:OwnK encI 3 1 B w u.qn u.cn (o.nums ++ spI)
  le:o.ev.length + 1<=u.ce
  ln:o.nums.length + 2<=u.cn
theorem OpCp.below {B:Nat} {w w':World} {u:Ou} {o:Sop} (h:OpCp B w u o) (hb:Below w.heap.size w w'):OpCp B w' u o:=⟨h.1,h.2,h.3,h.4,h.5,h.6,h.7,h.8.below hb,h.9.below hb,h.10,h.11⟩
theorem OpCp.ty {B g:Nat} {T:TypeId} {w w':World} {u:Ou} {o:Sop} {cur:Array Value} {cp:Nat × Nat} (h:OpCp B w u o) (hg:w.grownBy w' (some g)) (hT:w.heap[g]? = some (.cells cur T cp)) (h1:78 ≠ T) (h2:3 ≠ T):OpCp B w' u o:=⟨h.1,h.2,h.3,h.4,h.5,h.6,h.7,h.8.ty hg hT h1,h.9.ty hg hT h2,h.10,h.11⟩
theorem OpCp.other {β:Type} [Inhabited β] {enc2:β->List Value} {e2:TypeId} {k2 B B2:Nat} {w w':World} {q2:Option Addr} {c2:Nat} {l2:List β} {u:Ou} {o:Sop} (h:OpCp B w u o) (h2:OwnK enc2 e2 k2 B2 w q2 c2 l2) (hg:w.grownBy w' (Value.slice q2 l2.length c2).ownBlock) (h3:78 ≠ e2) (h4:3 ≠ e2):OpCp B w' u o:=⟨h.1,h.2,h.3,h.4,h.5,h.6,h.7,h.8.other h2 hg h3,h.9.other h2 hg h4,h.10,h.11⟩
theorem own_less {α:Type} [Inhabited α] {enc:α->List Value} {e:TypeId} {k B:Nat} {w:World} {q:Option Addr} {c:Nat} {l m:List α} (hk:0 < k) (h:OwnK enc e k B w q c (l ++ m)) (hq:q ≠ none):SlOf enc k w q c l:=by
 have h1:=h.ls
 exact ⟨fun e=>absurd e hq,by have:=h1.2.1;simp at this;omega,h1.2.2.1,h1.2.2.2.take hk⟩
theorem OpCp.qe {B:Nat} {w:World} {u:Ou} {o:Sop} (h:OpCp B w u o):∃ g,u.qe=some ⟨g,0,none⟩:=OwnP h.ev
theorem OpCp.qn {B:Nat} {w:World} {u:Ou} {o:Sop} (h:OpCp B w u o):∃ g,u.qn=some ⟨g,0,none⟩:=OwnI h.nums
theorem OpCp.oin {B:Nat} {w:World} {u:Ou} {o:Sop} (h:OpCp B w u o):OpIn w u o:=⟨h.1,h.2,h.3,h.4,h.5,h.6,h.7,own_less (by decide) h.8 (by obtain ⟨g,e⟩:=h.qe;rw [e];simp),own_less (by decide) h.9 (by obtain ⟨g,e⟩:=h.qn;rw [e];simp)⟩
/-- The rows of a copied script. -/
structure CpR (B:Nat) (w:World) (qa:Option Addr) (ca:Nat) (qo:Option Addr) (co:Nat) (us:List Ou) (s:Scr):Prop where
  at':OwnK encAt 62 2 B w qa ca s.attrs
  op:OwnK encO 42 7 B w qo co us
  len:us.length=s.ops.length
  ops:∀ (j:Nat) (u:Ou) (o:Sop),us[j]? = some u->s.ops[j]? = some o->OpCp B w u o
theorem CpR.below {B:Nat} {w w':World} {qa:Option Addr} {ca:Nat} {qo:Option Addr} {co:Nat} {us:List Ou} {s:Scr} (h:CpR B w qa ca qo co us s) (hb:Below w.heap.size w w'):CpR B w' qa ca qo co us s:=⟨h.1.below hb,h.2.below hb,h.3,fun j u o h1 h2=>(h.4 j u o h1 h2).below hb⟩
theorem CpR.ty {B g:Nat} {T:TypeId} {w w':World} {qa:Option Addr} {ca:Nat} {qo:Option Addr} {co:Nat} {us:List Ou} {s:Scr} {cur:Array Value} {cp:Nat × Nat} (h:CpR B w qa ca qo co us s) (hg:w.grownBy w' (some g)) (hT:w.heap[g]? = some (.cells cur T cp)) (h1:78 ≠ T) (h2:3 ≠ T) (h3:42 ≠ T) (h4:62 ≠ T):CpR B w' qa ca qo co us s:=⟨h.1.ty hg hT h4,h.2.ty hg hT h3,h.3,fun j u o h5 h6=>(h.4 j u o h5 h6).ty hg hT h1 h2⟩
theorem CpR.mono {B B':Nat} {w:World} {qa:Option Addr} {ca:Nat} {qo:Option Addr} {co:Nat} {us:List Ou} {s:Scr} (h:CpR B w qa ca qo co us s) (hb:B'<=B):CpR B' w qa ca qo co us s:=⟨h.1.mono hb,h.2.mono hb,h.3,fun j u o h1 h2=>by have h3:=h.4 j u o h1 h2;exact ⟨h3.1,h3.2,h3.3,h3.4,h3.5,h3.6,h3.7,h3.8.mono hb,h3.9.mono hb,h3.10,h3.11⟩⟩
theorem CpR.tx {B:Nat} {w:World} {qa:Option Addr} {ca:Nat} {qo:Option Addr} {co:Nat} {us:List Ou} {s:Scr} (h:CpR B w qa ca qo co us s):TxIn w qa ca qo co us s:=⟨h.1.ls,h.2.ls,h.3,fun j u o h1 h2=>(h.4 j u o h1 h2).oin⟩
/-- A copy under way: its box b, its rows behind it. -/
structure CpS (X W:World) (b:Nat) (n:Nat) (qa:Option Addr) (ca:Nat) (qo:Option Addr) (k co:Nat) (us:List Ou) (s:Scr):Prop where
  bl:Below b X W
  box:W.heap[b]? = some (.cells #[.int .i64 s.cfg.d,.int .i64 s.cfg.c,.int .i64 s.cfg.s,.int .i64 s.cfg.t,.int .i64 s.cfg.h,.int .i64 s.cfg.q,.int .i64 s.cfg.w,.int .i64 s.cfg.u,.slice qa n ca,.slice qo k co] 29 (0,0))
  rows:CpR (b + 1) W qa ca qo co us s
theorem CpS.below {X W W':World} {b n:Nat} {qa:Option Addr} {ca:Nat} {qo:Option Addr} {k co:Nat} {us:List Ou} {s:Scr} (h:CpS X W b n qa ca qo k co us s) (hb:Below W.heap.size W W'):CpS X W' b n qa ca qo k co us s:=⟨below_tr h.bl (hb.mono (Nat.le_of_lt (heap_lt h.box))),blk_onS h.box hb,h.rows.below hb⟩
theorem ops_snoc {B:Nat} {w:World} {us:List Ou} {os:List Sop} {u:Ou} {o:Sop} (hl:us.length=os.length) (h:∀ (j:Nat) (v:Ou) (p:Sop),us[j]? = some v->os[j]? = some p->OpCp B w v p) (h1:OpCp B w u o):∀ (j:Nat) (v:Ou) (p:Sop),(us ++ [u])[j]? = some v->(os ++ [o])[j]? = some p->OpCp B w v p:=by
 intro j v p hv hp
 by_cases hj:j < us.length
 ·rw [List.getElem?_append_left hj] at hv
  rw [List.getElem?_append_left (by omega)] at hp
  exact h j v p hv hp
 ·rw [List.getElem?_append_right (by omega)] at hv
  rw [List.getElem?_append_right (by omega)] at hp
  have hj2:=(List.getElem?_eq_some_iff.1 hv).1
  simp only [List.length_singleton] at hj2
  rw [show j - us.length=0 by omega] at hv
  rw [show j - os.length=0 by omega] at hp
  cases hv;cases hp
  exact h1
/-- What stands behind the growth of the ops' row: the box as it was, the new rows. -/
structure CpT (X W:World) (b:Nat) (n:Nat) (qa:Option Addr) (ca:Nat) (qo:Option Addr) (k co:Nat) (q5:Option Addr) (c5:Nat) (us:List Ou) (s:Scr):Prop where
  bl:Below b X W
  box:W.heap[b]? = some (.cells #[.int .i64 s.cfg.d,.int .i64 s.cfg.c,.int .i64 s.cfg.s,.int .i64 s.cfg.t,.int .i64 s.cfg.h,.int .i64 s.cfg.q,.int .i64 s.cfg.w,.int .i64 s.cfg.u,.slice qa n ca,.slice qo k co] 29 (0,0))
  rows:CpR (b + 1) W qa ca q5 c5 us s
theorem CpS.appOp {X W W':World} {b n:Nat} {qa:Option Addr} {ca:Nat} {qo:Option Addr} {k co:Nat} {us:List Ou} {s:Scr} {q5:Option Addr} {c5:Nat} {u:Ou} {o:Sop} (h:CpS X W b n qa ca qo k co us s) (hk:us.length=k) (hg:W.grownBy W' (Value.slice qo k co).ownBlock) (ho:OwnK encO 42 7 (b + 1) W' q5 c5 (us ++ [u])) (hb:Below (b + 1) W W') (hu:OpCp (b + 1) W u o):CpT X W' b n qa ca qo k co q5 c5 (us ++ [u]) ⟨s.cfg,s.attrs,s.ops ++ [o]⟩:=by
 subst hk
 have hr:=h.rows
 refine ⟨below_tr h.bl (hb.mono (by omega)),(hb.block b (by omega)).trans h.box,hr.at'.other hr.op hg (by decide),ho,by have:=hr.len;simp;omega,ops_snoc hr.len (fun j v p h1 h2=>(hr.ops j v p h1 h2).other hr.op hg (by decide) (by decide)) (hu.other hr.op hg (by decide) (by decide))⟩
theorem CpT.fin {X W:World} {b n:Nat} {qa:Option Addr} {ca:Nat} {qo:Option Addr} {k co:Nat} {q5:Option Addr} {c5:Nat} {us:List Ou} {s:Scr} (h:CpT X W b n qa ca qo k co q5 c5 us s) (k':Nat):CpS X (W.setCell ⟨b,9,none⟩ (.slice q5 k' c5)) b n qa ca q5 k' c5 us s:=by
 have hg:W.grownBy (W.setCell ⟨b,9,none⟩ (.slice q5 k' c5)) (some b):=gr_set (gr_refl _ _) _ _
 exact ⟨below_tr h.bl (below_gr hg (heap_lt h.box)),set10_9 h.box _,h.rows.ty hg h.box (by decide) (by decide) (by decide) (by decide)⟩
end Go.Proofs.YtdgoibnndfibnaaGreatDoor

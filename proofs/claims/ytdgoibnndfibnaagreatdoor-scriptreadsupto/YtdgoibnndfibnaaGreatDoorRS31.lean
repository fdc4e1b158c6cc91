/- Text of any script. -/
import Derived.Test.YtdgoibnndfibnaaGreatDoorRZau
namespace Go.Proofs.YtdgoibnndfibnaaGreatDoor
open Go.RowKit Go.Sort
theorem own_one {B:Nat} (W:World) (a:ByteArray) (hB:B<=W.heap.size):OwnK encS 9 1 B (W.alloc (.cells #[.string a] 9)) (some ⟨W.heap.size,0,none⟩) 1 [a]:=by
 unfold OwnK World.ownsRow
 refine ⟨by simp [flatK],Or.inr ⟨W.heap.size,1,#[.string a],rfl,hB,box_new W _,Nat.le_refl _,(by unfold maxLen;omega),rfl,by simp [flatK,encS]⟩⟩
theorem one_str (W:World) (a:ByteArray):SlOf encS 1 (W.alloc (.cells #[.string a] 9)) (some ⟨W.heap.size,0,none⟩) 1 [a]:=(own_one (B:=0) W a (Nat.zero_le _)).ls
theorem opsAt {w:World} {q:Option Addr} {c:Nat} {l:List Ou} {j:Nat} {u:Ou} (h:SlOf encO 7 w q c l) (hj:l[j]? = some u):∃ b off,q=some ⟨b,off,none⟩/\b < w.heap.size/\w.cell? ⟨b,off + j * 7,none⟩=some (.int .i64 u.kind)/\w.cell? ⟨b,off + j * 7 + 1,none⟩=some (.int .i64 u.who)/\w.cell? ⟨b,off + j * 7 + 2,none⟩=some (.int .i64 u.ck)/\w.cell? ⟨b,off + j * 7 + 3,none⟩=some (.int .i64 u.id)/\w.cell? ⟨b,off + j * 7 + 4,none⟩=some (.string u.text)/\w.cell? ⟨b,off + j * 7 + 5,none⟩=some (.slice u.qe u.ne u.ce)/\w.cell? ⟨b,off + j * 7 + 6,none⟩=some (.slice u.qn u.nn u.cn):=by
 obtain ⟨b,off,hq,hb,hc⟩:=h.2.2.2.at hj
 exact ⟨b,off,hq,hb,hc 0 (by omega),hc 1 (by omega),hc 2 (by omega),hc 3 (by omega),hc 4 (by omega),hc 5 (by omega),hc 6 (by omega)⟩
/-- A script's rows in memory, as they are read. -/
structure TxIn (w:World) (qa:Option Addr) (ca:Nat) (qo:Option Addr) (co:Nat) (us:List Ou) (s:Scr):Prop where
  at':SlOf encAt 2 w qa ca s.attrs
  op:SlOf encO 7 w qo co us
  len:us.length=s.ops.length
  ops:∀ (j:Nat) (u:Ou) (o:Sop),us[j]? = some u->s.ops[j]? = some o->OpIn w u o
theorem TxIn.below {w w':World} {qa:Option Addr} {ca:Nat} {qo:Option Addr} {co:Nat} {us:List Ou} {s:Scr} (h:TxIn w qa ca qo co us s) (hb:Below w.heap.size w w'):TxIn w' qa ca qo co us s:=⟨h.1.below hb,h.2.below hb,h.3,fun j u o h1 h2=>(h.4 j u o h1 h2).below hb⟩
theorem Rows.tx {B:Nat} {w:World} {qa:Option Addr} {ca:Nat} {qo:Option Addr} {co:Nat} {us:List Ou} {s:Scr} (h:Rows B w qa ca qo co us s):TxIn w qa ca qo co us s:=⟨h.1.ls,h.2.ls,h.3.1,fun j u o h1 h2=>(h.3.2 j u o h1 h2).oin⟩
theorem ats_sl {w:World} {q:Option Addr} {c:Nat} {l:List (ByteArray × Int)} (h:SlOf encAt 2 w q c l):Sc.AtsOf w q l:=by
 intro h0
 obtain ⟨b,off,hq,hb,hc⟩:=h.2.2.2 h0
 refine ⟨b,off,hq,hb,fun j x hj=>⟨?_, ?_⟩⟩
 ·have:=hc (j * 2 + 0) _ (flat_at (enc:=encAt) (k:=2) hj 0 (by decide))
  simpa [Nat.add_assoc,encAt] using this
 ·have:=hc (j * 2 + 1) _ (flat_at (enc:=encAt) (k:=2) hj 1 (by decide))
  simpa [Nat.add_assoc,encAt] using this
def lnA (a:ByteArray × Int):ByteArray:=⟨(attrB a).toArray⟩
def lnO (o:Sop):ByteArray:=⟨(lineB o).toArray⟩
def lnsB (s:Scr):List ByteArray:=⟨(cfgB s.cfg).toArray⟩ :: (s.attrs.map lnA ++ s.ops.map lnO)
theorem join_tail:∀ r:List Bs,(r.map ([10] ++ ·)).flatten ++ [10]=[10] ++ r.flatMap (fun l=>l ++ [10])
  | []=>rfl
  | y :: r=>by
    rw [List.map_cons,List.flatten_cons,List.flatMap_cons,List.append_assoc,join_tail r]
    simp
theorem join_ends:∀ (ls:List Bs),ls ≠ []->Lib.join ls [10] ++ [10]=endsB ls
 | [],h=>absurd rfl h
 | x :: r,_=>by
  rw [Lib.join_cons]
  unfold endsB Lib.joinTail
  rw [List.flatMap_cons,List.append_assoc,List.append_assoc]
  congr 1
  exact join_tail r
theorem lns_join (s:Scr):Lib.join ((lnsB s).map (·.data.toList)) [10] ++ [10]=scrB s:=by
 have:(lnsB s).map (·.data.toList)=scrLs s:=by
  unfold lnsB scrLs
  simp [lnA,lnO,Function.comp_def]
 rw [this,join_ends _ (by unfold scrLs;simp)]
 rfl
open Classical in
noncomputable def txL (s:Scr):ByteArray:=if ScrOk s then ⟨(scrB s).toArray⟩ else ⟨#[]⟩
open Classical in
noncomputable def txE (s:Scr):Int:=if ScrOk s then 0 else 1
theorem join_any2 (q:Option Addr) (c:Nat) (xs:List ByteArray) (n:Nat) (hn0:xs.length=n) (sep:ByteArray) (w:World) (h:SlOf encS 1 w q c xs) (h1:1<=n) (hlen:(Lib.join (xs.map (·.data.toList)) sep.data.toList).length<=140737488355328) (hn:n<=140737488355328) :
  Calls Tryz.prog 28 #[.slice q n c,.string sep] w fun e w'=>e=.returned (.string ⟨(Lib.join (xs.map (·.data.toList)) sep.data.toList).toArray⟩)/\Below w.heap.size w w':=by
 subst hn0
 exact join_any q c xs sep w h h1 hlen hn
theorem ret_tup {a:ByteArray} {l:Bs} (h:a.data.toList=l):Ending.returned (.tuple #[.string a,.int .i64 0])=.returned (.tuple #[.string ⟨l.toArray⟩,.int .i64 0]):=by rw [str_eq h]
theorem at_size {a:ByteArray × Int} (h:Sc.atOk a=true):a.1.size<=32:=name_len (atOk_parts h).1
theorem new_any3 (p:Option Addr) (cap:Nat) (l:List (ByteArray × Int)) (k:Nat) (hk:l.length=k) (w:World) (hl:k * 24<=140737488355328) (hp:p=none->l.length=0/\cap=0) (hA:Sc.AtsOf w p l) (E:Int) (hE:newE l=E) :
  Calls Tryz.prog 25 #[.slice p k cap] w fun e w'=>(∃ r,e=.returned (.tuple #[.pointer r,.int .i64 E]))/\Below w.heap.size w w':=by
 subst hk;subst hE
 refine (Sc.new_any p cap l w (by omega) hp hA).mono ?_
 rintro e w' ⟨h,hb⟩
 refine ⟨?_,hb⟩
 unfold newE
 rcases h with ⟨h1,rfl⟩ | ⟨h1,h2,rfl⟩ | ⟨h1,h2,h3,b,l',rfl,_⟩
 ·rw [if_neg (fun h=>by have:=h.1;omega),if_pos h1]
  exact ⟨_,rfl⟩
 ·rw [if_neg (fun h=>h2 h.2),if_neg (by omega)]
  exact ⟨_,rfl⟩
 ·rw [if_pos ⟨h1,h2,h3⟩]
  exact ⟨_,rfl⟩
set_option maxHeartbeats 16000000 in
set_option maxRecDepth 100000 in
theorem text_scr (w:World) (hG:G w) (qa:Option Addr) (ca:Nat) (qo:Option Addr) (co:Nat) (us:List Ou) (s:Scr) (hin:TxIn w qa ca qo co us s) (hI:ScrI s) (hZ:∀ o ∈ s.ops,OpZ o) (hat:s.attrs.length * 24<=140737488355328) (hop:s.ops.length<=1000000000000) (hT:ScrOk s->(scrB s).length<=140737488355328) :
  Calls Tryz.prog 11 #[.agg #[.int .i64 s.cfg.d,.int .i64 s.cfg.c,.int .i64 s.cfg.s,.int .i64 s.cfg.t,.int .i64 s.cfg.h,.int .i64 s.cfg.q,.int .i64 s.cfg.w,.int .i64 s.cfg.u,.slice qa s.attrs.length ca,.slice qo us.length co]] w fun e w'=>e=.returned (.tuple #[.string (txL s),.int .i64 (txE s)])/\Below w.heap.size w w':=by
 obtain ⟨X,HX⟩:∃ X,w.alloc (.cells #[.int .i64 s.cfg.d,.int .i64 s.cfg.c,.int .i64 s.cfg.s,.int .i64 s.cfg.t,.int .i64 s.cfg.h,.int .i64 s.cfg.q,.int .i64 s.cfg.w,.int .i64 s.cfg.u,.slice qa s.attrs.length ca,.slice qo us.length co] 29)=X:=⟨_,rfl⟩
 have bX:Below w.heap.size w X:=by rw [<- HX];exact (Below.refl _ _).alloc (Nat.le_refl _) _
 have hX:X.heap[w.heap.size]? = some (.cells #[.int .i64 s.cfg.d,.int .i64 s.cfg.c,.int .i64 s.cfg.s,.int .i64 s.cfg.t,.int .i64 s.cfg.h,.int .i64 s.cfg.q,.int .i64 s.cfg.w,.int .i64 s.cfg.u,.slice qa s.attrs.length ca,.slice qo us.length co] 29 (0,0)):=by rw [<- HX];exact box_new _ _
 obtain ⟨E,hE⟩:∃ E,newE s.attrs=E:=⟨_,rfl⟩
 have hNew:=new_any3 qa ca s.attrs s.attrs.length rfl X hat (hin.below bX).at'.1 (ats_sl (hin.below bX).at') E hE
 have HNEW:=hide hNew
 have HB:=hide bX
 have HX0:=hide hX
 have UL:=hide hin.len
 by_cases h0:E=0
 rotate_left
 ·have hne:(E != 0)=true:=by simpa using h0
  have hno:¬ ScrOk s:=fun h=>h0 (by rw [<- hE];unfold newE;rw [if_pos h.attrs])
  obtain ⟨x0,x1,x2,x3,x4,x5,x6,x7,x8,x9,xf⟩:=of10z hX
  have HR1:=hide (show txL s=⟨#[]⟩ by unfold txL;rw [if_neg hno])
  have HR2:=hide (show txE s=1 by unfold txE;rw [if_neg hno])
  clear hin hI hZ hT hX hno hE h0 hNew bX hG
  go_enter Tryz.func11,Tryz.ntmps11
  go_wp2_with (go_at_call 25;refine (uh HNEW).mono ?_;rintro e w2 ⟨⟨r,rfl⟩,b2⟩;have B2:=hide (below_sub (uh HB) b2);clear b2)
  go_ret2
  exact ⟨by rw [uh HR1,uh HR2];rfl,uh B2⟩
 subst h0
 have hok:AtsOk s.attrs:=by
  by_cases h:AtsOk s.attrs
  ·exact h
  ·unfold newE at hE
   rw [if_neg h] at hE
   split at hE
   ·exact absurd hE (by decide)
   ·exact absurd hE (by decide)
 have hnew0:=hNew
 clear hNew hE
 by_cases h4:s.ops.length<=4096
 rotate_left
 ·have k1:(us.length:Int) > 4096:=by have:=hin.len;omega
  have k2:decide ((us.length:Int) > 4096)=true:=decide_eq_true k1
  have k3:(4096:Int) < (us.length:Int):=k1
  have k4:decide ((4096:Int) < (us.length:Int))=true:=decide_eq_true k3
  have hno:¬ ScrOk s:=fun h=>h4 h.len
  have HR1:=hide (show txL s=⟨#[]⟩ by unfold txL;rw [if_neg hno])
  have HR2:=hide (show txE s=1 by unfold txE;rw [if_neg hno])
  obtain ⟨x0,x1,x2,x3,x4,x5,x6,x7,x8,x9,xf⟩:=of10z hX
  clear hin hI hZ hT hno hnew0 bX hG hok h4 hop hat xf
  go_enter Tryz.func11,Tryz.ntmps11
  go_wp2_with (go_at_call 25;refine (uh HNEW).mono ?_;rintro e w2 ⟨⟨r,rfl⟩,b2⟩;have B2:=hide (below_sub (uh HB) b2);obtain ⟨z0,z1,z2,z3,z4,z5,z6,z7,z8,z9,zf⟩:=of10z (blk_onS (uh HX0) b2);clear b2 x0 x1 x2 x3 x4 x5 x6 x7 x8 x9)
  go_ret2
  exact ⟨by rw [uh HR1,uh HR2];rfl,uh B2⟩
 have k1:¬ (us.length:Int) > 4096:=by have:=hin.len;omega
 have k2:decide ((us.length:Int) > 4096)=false:=decide_eq_false k1
 have k3:¬ (4096:Int) < (us.length:Int):=k1
 have k4:decide ((4096:Int) < (us.length:Int))=false:=decide_eq_false k3
 have hCF:=fun W hW=>configLine_any s.cfg W hW hI.cfg
 obtain ⟨A0,hA0⟩:∃ A:ByteArray,(⟨(cfgB s.cfg).toArray⟩:ByteArray)=A:=⟨_,rfl⟩
 rw [hA0] at hCF
 unfold Cfg.val at hCF
 have hwX:w.heap.size<=X.heap.size:=bX.size
 have HIN:=hide (hin.below bX)
 have HG:=hide (G_below hG bX)
 have HI:=hide hI
 have HZ:=hide hZ
 have HT:=hide hT
 have HA0:=hide hA0
 have HCF:=hide hCF
 have HOK:=hide hok
 have H4:=hide h4
 obtain ⟨x0,x1,x2,x3,x4,x5,x6,x7,x8,x9,xf⟩:=of10z hX
 clear hin hI hZ hT hnew0 bX hG hok h4 xf hX hA0 hCF
 go_enter Tryz.func11,Tryz.ntmps11
 go_wp2_with (first
  | (go_at_call 25;refine (uh HNEW).mono ?_;rintro e w2 ⟨⟨r,rfl⟩,b2⟩;have B2:=hide b2;obtain ⟨z0,z1,z2,z3,z4,z5,z6,z7,z8,z9,zf⟩:=of10z (blk_onS (uh HX0) b2);clear b2 x0 x1 x2 x3 x4 x5 x6 x7 x8 x9)
  | (go_at_call 26;refine (uh HCF _ (G_below (uh HG) (uh B2))).mono ?_;rintro e w3 ⟨rfl,b3⟩;have B3:=hide (below_sub (uh B2) b3);obtain ⟨y0,y1,y2,y3,y4,y5,y6,y7,y8,y9,yf⟩:=of10z (blk_onS (uh HX0) (uh B3));have HB1:=hide (below_sub (uh B3) ((Below.refl w3.heap.size w3).alloc (Nat.le_refl _) (.cells #[.string A0] 9)));have HO1:=hide (own_one (B:=X.heap.size) w3 A0 (uh B3).size);have zl:w.heap.size < w3.heap.size:=heap_lt (blk_onS (uh HX0) (uh B3));have zn:¬ w3.heap.size=w.heap.size:=(by omega);have zm:¬ w.heap.size=w3.heap.size:=(by omega);clear b3 z0 z1 z2 z3 z4 z5 z6 z7 z8 z9 zf))
 go_loopw [6,34] (fun ln i wr=>∃ (k:Nat) (q:Option Addr) (c:Nat),k<=s.attrs.length/\i=.int .i64 (k:Int)/\ln=.slice q (k + 1) c/\Hid (OwnK encS 9 1 X.heap.size wr q c (A0 :: (s.attrs.take k).map lnA))/\Hid (Below X.heap.size X wr)) (fun _ i _=>s.attrs.length - (intOf i).toNat)
 case atStart=>exact ⟨0,_,1,Nat.zero_le _,rfl,rfl,HO1,HB1⟩
 case round =>
  clear y0 y1 y2 y3 y4 y5 y6 y7 y8 y9 yf HO1 HB1 B2 B3 zl zn zm
  obtain ⟨k,q,c,hk,rfl,rfl,HO,HB2⟩:=hrel
  obtain ⟨U,rfl⟩:∃ U,U=wr:=⟨_,rfl⟩
  by_cases hlt:k < s.attrs.length
  ·obtain ⟨a,ha,_⟩:=get_at hlt
   obtain ⟨b,off,hq,hb,c0,c1⟩:=attrsAt ((uh HIN).at'.below (uh HB2)) ha
   have has:a.1.size<=140737488355328:=Nat.le_trans (at_size (List.all_eq_true.1 (uh HOK).2.1 a (List.mem_of_getElem? ha))) (by decide)
   subst hq
   have ki0:(0:Int)<=(k:Int):=by omega
   have ki1:(k:Int) < (s.attrs.length:Int):=by omega
   obtain ⟨Y,HY⟩:∃ Y,U.alloc (.cells #[.string a.1,.int .i64 a.2] 62)=Y:=⟨_,rfl⟩
   have bY:Below U.heap.size U Y:=by rw [<- HY];exact (Below.refl _ _).alloc (Nat.le_refl _) _
   have hYB:Y.heap[U.heap.size]? = some (.cells #[.string a.1,.int .i64 a.2] 62 (0,0)):=by rw [<- HY];exact box_new _ _
   have BY:=hide bY
   have hxu:X.heap.size<=U.heap.size:=(uh HB2).size
   obtain ⟨y0,y1⟩:=of2s hYB
   obtain ⟨A,hA⟩:∃ A:ByteArray,(⟨(attrB a).toArray⟩:ByteArray)=A:=⟨_,rfl⟩
   have hAL:=fun W=>attrLine_any a W has
   rw [hA] at hAL
   obtain ⟨LS,hLS⟩:∃ l,A0 :: (s.attrs.take k).map lnA=l:=⟨_,rfl⟩
   have HO2:=hide (show OwnK encS 9 1 X.heap.size U q c LS by rw [<- hLS];exact uh HO)
   have HLL:=hide (show LS.length=k + 1 by rw [<- hLS];simp;omega)
   have HLS2:=hide (show LS ++ [A]=A0 :: (s.attrs.take (k + 1)).map lnA by rw [<- hLS,take_snoc_of ha,List.map_append,<- hA];simp [lnA])
   clear HO hLS bY hYB ha has hA
   go_wp2_with (first
    | (go_at_call 27;refine (hAL _).mono ?_;rintro e w4 ⟨rfl,b4⟩;have B4:=hide (below_sub (uh BY) b4);clear b4)
    | (at_builtin;refine wpList_app rowS rfl _ _ rfl X.heap.size q c LS (some ⟨w4.heap.size,0,none⟩) 1 [A] (k + 1) 1 (k + 1 + 1) (uh HLL) rfl rfl rfl rfl (((uh HO2).below (uh B4)).below ((Below.refl _ _).alloc (Nat.le_refl _) _)) (one_str w4 A).src (by unfold maxLen;omega) (by omega) (by have:=(uh B4).size;simp;omega) ?_;intro q2 c2 w5 o5 b5 _ _;have HO5:=hide o5;have HB5:=hide (below_tr (below_tr (uh HB2) ((below_sub (uh B4) ((Below.refl w4.heap.size w4).alloc (Nat.le_refl _) (.cells #[.string A] 9))).mono hxu)) b5);clear o5 b5))
   exact ⟨⟨k + 1,q2,c2,by omega,by go_num,rfl,hide (by rw [<- uh HLS2];exact uh HO5),HB5⟩,by simp [intOf];omega⟩
  ·obtain rfl:k=s.attrs.length:=by omega
   have ki1:¬ (s.attrs.length:Int) < (s.attrs.length:Int):=by omega
   obtain ⟨y0,y1,y2,y3,y4,y5,y6,y7,y8,y9,yf⟩:=of10z (blk_onS (uh HX0) (uh HB2))
   have HO9:=hide (show OwnK encS 9 1 X.heap.size U q c (A0 :: (s.attrs.map lnA ++ (s.ops.take 0).map lnO)) by have:=uh HO;rw [List.take_length] at this;simpa using this)
   have HB9:=HB2
   clear HO hlt
   go_wp2
   go_loopw [6,47] (fun ln i wr=>∃ (k:Nat) (q:Option Addr) (c:Nat),k<=us.length/\i=.int .i64 (k:Int)/\ln=.slice q (s.attrs.length + 1 + k) c/\Hid ((s.ops.take k).all opOk=true)/\Hid (OwnK encS 9 1 X.heap.size wr q c (A0 :: (s.attrs.map lnA ++ (s.ops.take k).map lnO)))/\Hid (Below X.heap.size X wr)) (fun _ i _=>us.length - (intOf i).toNat)
   case atStart=>exact ⟨0,_,_,Nat.zero_le _,rfl,rfl,hide (by simp),HO9,HB9⟩
   case round =>
    clear y0 y1 y2 y3 y4 y5 y6 y7 y8 y9 yf HO9 HB9 HB2 ki1
    obtain ⟨k,q,c,hk,rfl,rfl,HALL,HO,HB2⟩:=hrel
    by_cases hlt:k < us.length
    ·obtain ⟨u,ha,_⟩:=get_at hlt
     obtain ⟨o,ho,_⟩:=get_at (show k < s.ops.length by have:=uh UL;omega)
     have hTX:=(uh HIN).below (uh HB2)
     obtain ⟨b,off,hq,hb,c0,c1,c2,c3,c4,c5,c6⟩:=opsAt hTX.op ha
     have hu:=hTX.ops k u o ha ho
     have hmem:=List.mem_of_getElem? ho
     subst hq
     have ki0:(0:Int)<=(k:Int):=by omega
     have ki1:(k:Int) < (us.length:Int):=by omega
     obtain ⟨Y,HY⟩:∃ Y,wr.alloc (.cells #[.int .i64 u.kind,.int .i64 u.who,.int .i64 u.ck,.int .i64 u.id,.string u.text,.slice u.qe u.ne u.ce,.slice u.qn u.nn u.cn] 42)=Y:=⟨_,rfl⟩
     have bY:Below wr.heap.size wr Y:=by rw [<- HY];exact (Below.refl _ _).alloc (Nat.le_refl _) _
     have hYB:Y.heap[wr.heap.size]? = some (.cells #[.int .i64 u.kind,.int .i64 u.who,.int .i64 u.ck,.int .i64 u.id,.string u.text,.slice u.qe u.ne u.ce,.slice u.qn u.nn u.cn] 42 (0,0)):=by rw [<- HY];exact box_new _ _
     have BY:=hide bY
     have hxu:X.heap.size<=wr.heap.size:=(uh HB2).size
     have HU:=hide (show OpIn Y u o from hu.below bY)
     have HGY:=hide (G_below (uh HG) (below_sub (uh HB2) bY))
     obtain ⟨y0,y1,y2,y3,y4,y5,y6⟩:=of7s hYB
     have hul2:us.length<=1000000000000:=by have:=uh UL;omega
     obtain ⟨A,hA⟩:∃ A:ByteArray,opL o=A:=⟨_,rfl⟩
     have hOP:=fun (W:World) (h1:OpIn W u o) (h2:G W)=>op_any h1 ((uh HI).ops o hmem) h2 (uh HZ o hmem)
     unfold Ou.val at hOP
     rw [hA] at hOP
     cases hok:opOk o with
     | true =>
      rw [show opE o=0 by unfold opE;rw [hok];rfl] at hOP
      obtain ⟨LS,hLS⟩:∃ l,A0 :: (s.attrs.map lnA ++ (s.ops.take k).map lnO)=l:=⟨_,rfl⟩
      have HO2:=hide (show OwnK encS 9 1 X.heap.size wr q c LS by rw [<- hLS];exact uh HO)
      have HLL:=hide (show LS.length=s.attrs.length + 1 + k by rw [<- hLS];have:=uh UL;simp;omega)
      have HLS2:=hide (show LS ++ [A]=A0 :: (s.attrs.map lnA ++ (s.ops.take (k + 1)).map lnO) by rw [<- hLS,take_snoc_of ho,List.map_append,<- hA];simp [lnO,opL,hok])
      have HALL2:=hide (show (s.ops.take (k + 1)).all opOk=true by rw [take_snoc_of ho,List.all_append,uh HALL];simp [hok])
      clear HO hLS bY hYB ha ho hA hok hu hTX hmem
      go_wp2_with (first
       | (go_at_call 13;refine (hOP _ (uh HU) (uh HGY)).mono ?_;rintro e w4 ⟨rfl,b4⟩;have B4:=hide (below_sub (uh BY) b4);clear b4)
       | (at_builtin;refine wpList_app rowS rfl _ _ rfl X.heap.size q c LS (some ⟨w4.heap.size,0,none⟩) 1 [A] (s.attrs.length + 1 + k) 1 (s.attrs.length + 1 + k + 1) (uh HLL) rfl rfl rfl rfl (((uh HO2).below (uh B4)).below ((Below.refl _ _).alloc (Nat.le_refl _) _)) (one_str w4 A).src (by unfold maxLen;omega) (by omega) (by have:=(uh B4).size;simp;omega) ?_;intro q2 c2 w5 o5 b5 _ _;have HO5:=hide o5;have HB5:=hide (below_tr (below_tr (uh HB2) ((below_sub (uh B4) ((Below.refl w4.heap.size w4).alloc (Nat.le_refl _) (.cells #[.string A] 9))).mono hxu)) b5);clear o5 b5))
      exact ⟨⟨k + 1,q2,c2,by omega,by go_num,rfl,HALL2,hide (by rw [<- uh HLS2];exact uh HO5),HB5⟩,by simp [intOf];omega⟩
     | false =>
      rw [show opE o=1 by unfold opE;rw [hok];rfl] at hOP
      have hno:¬ ScrOk s:=fun h=>by
       have:=List.all_eq_true.1 h.ops o hmem
       rw [hok] at this
       exact absurd this (by decide)
      have HR1:=hide (show txL s=⟨#[]⟩ by unfold txL;rw [if_neg hno])
      have HR2:=hide (show txE s=1 by unfold txE;rw [if_neg hno])
      clear bY hYB ha ho hA hok hu hTX hmem hno
      go_wp2_with (go_at_call 13;refine (hOP _ (uh HU) (uh HGY)).mono ?_;rintro e w4 ⟨rfl,b4⟩;have B4:=hide (below_sub (uh BY) b4);clear b4)
      go_ret2
      exact ⟨by rw [uh HR1,uh HR2];rfl,below_tr (below_sub (uh HB) (uh HB2)) ((uh B4).mono (Nat.le_trans hwX hxu))⟩
    ·obtain rfl:k=us.length:=by omega
     have ki1:¬ (us.length:Int) < (us.length:Int):=by omega
     have hall:s.ops.all opOk=true:=by have:=uh HALL;rwa [uh UL,List.take_length] at this
     have hsok:ScrOk s:=⟨uh HOK,uh H4,hall⟩
     have hLN:A0 :: (s.attrs.map lnA ++ (s.ops.take us.length).map lnO)=lnsB s:=by rw [uh UL,List.take_length,<- uh HA0];rfl
     have hO:=uh HO
     rw [hLN] at hO
     have hln:(lnsB s).length=s.attrs.length + 1 + us.length:=by have:=uh UL;simp [lnsB];omega
     have hjl:=lns_join s
     have hJ:=join_any2 q c (lnsB s) _ hln ⟨#[10]⟩ wr hO.ls (by omega) (by
      have h1:=congrArg List.length hjl
      rw [List.length_append] at h1
      have:=uh HT hsok
      show (Lib.join ((lnsB s).map (·.data.toList)) [10]).length<=_
      omega) (by have:=uh UL;omega)
     obtain ⟨J,hJJ⟩:∃ J:ByteArray,(⟨(Lib.join ((lnsB s).map (·.data.toList)) (⟨#[10]⟩:ByteArray).data.toList).toArray⟩:ByteArray)=J:=⟨_,rfl⟩
     rw [hJJ] at hJ
     have hJ10:J.data.toList ++ [10]=scrB s:=by rw [<- hJJ,<- hjl]
     have HJ10:=hide hJ10
     have nj:¬ 9223372036854775807 < J.size + 1:=by
      have h1:=congrArg List.length hJ10
      rw [List.length_append,bytes_len] at h1
      simp only [List.length_singleton] at h1
      have:=uh HT hsok
      omega
     have HJ:=hide hJ
     have HR1:=hide (show txL s=⟨(scrB s).toArray⟩ by unfold txL;rw [if_pos hsok])
     have HR2:=hide (show txE s=0 by unfold txE;rw [if_pos hsok])
     clear hall hsok hLN hO hln hjl hJ hJJ hJ10 HO
     go_wp2_with (go_at_call 28;refine (uh HJ).mono ?_;rintro e w4 ⟨rfl,b4⟩;have B4:=hide (below_sub (below_sub (uh HB) ((uh HB2))) (b4.mono (Nat.le_refl _)));clear b4)
     go_ret2
     exact ⟨by rw [uh HR1,uh HR2];exact ret_tup (by rw [<- uh HJ10];simp),uh B4⟩
end Go.Proofs.YtdgoibnndfibnaaGreatDoor

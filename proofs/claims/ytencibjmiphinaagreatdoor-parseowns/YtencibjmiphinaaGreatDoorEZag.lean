/- Nodes that the parser answers: bounds, set. -/
import Derived.Test.YtencibjmiphinaaGreatDoorEZad
import Derived.Test.YtencibjmiphinaaGreatDoorEZaf
import Derived.Shelf.Strconv.Clone
namespace Go.Proofs.YtencibjmiphinaaGreatDoor
open Go.RowKit
theorem fld3 (a b c d e:Value) (w:World):(Instr.field 56 (.agg #[a,b,c,d,e]) 3).run Tryz.prog w=.ok d w:=by kernel_rfl
theorem fld4 (a b c d e:Value) (w:World):(Instr.field 56 (.agg #[a,b,c,d,e]) 4).run Tryz.prog w=.ok e w:=by kernel_rfl
/-- What a rule leaves that answers a node. -/
def NdR (g:Nat) (en:Int) (w:World) (x:Rs Nd) (e:Ending) (w':World):Prop:=match x with
 | .bad p=>e=refusal p/\w.grownBy w' (some g)
 | .ok t r=>NewT w.heap.size w' t e/\Nx g en r w w'
theorem bel_z (w:World):Below w.heap.size w (w.alloc (.cells #[.int .i64 0,.string ⟨#[]⟩,.slice none 0 0,.slice none 0 0,.int .i64 0,.int .i64 0,.int .i64 0,.slice none 0 0] 29)):=(Below.refl _ _).alloc (Nat.le_refl _) _
theorem Ps.z {w:World} {g:Nat} {en:Int} {l:List Tk} (h:Ps w g en l):Nx g en l (w.alloc (.cells #[.int .i64 0,.string ⟨#[]⟩,.slice none 0 0,.slice none 0 0,.int .i64 0,.int .i64 0,.int .i64 0,.slice none 0 0] 29)) (w.alloc (.cells #[.int .i64 0,.string ⟨#[]⟩,.slice none 0 0,.slice none 0 0,.int .i64 0,.int .i64 0,.int .i64 0,.slice none 0 0] 29)):=⟨h.below (bel_z w),grown_bel (Below.refl _ _) _⟩
theorem gr_z {w w9:World} {g:Nat} (h:(w.alloc (.cells #[.int .i64 0,.string ⟨#[]⟩,.slice none 0 0,.slice none 0 0,.int .i64 0,.int .i64 0,.int .i64 0,.slice none 0 0] 29)).grownBy w9 (some g)):w.grownBy w9 (some g):=(grown_bel (bel_z w) _).trans h
/-- The result's cells, behind calls. -/
theorem res8 {w w9:World} {g:Nat} (hx:(w.alloc (.cells #[.int .i64 0,.string ⟨#[]⟩,.slice none 0 0,.slice none 0 0,.int .i64 0,.int .i64 0,.int .i64 0,.slice none 0 0] 29)).grownBy w9 (some g)) (hg:g < w.heap.size) :
  w.heap.size < w9.heap.size/\(w9.cell? ⟨w.heap.size,0,none⟩=some (.int .i64 0)/\w9.cell? ⟨w.heap.size,1,none⟩=some (.string ⟨#[]⟩)/\w9.cell? ⟨w.heap.size,2,none⟩=some (.slice none 0 0)/\w9.cell? ⟨w.heap.size,3,none⟩=some (.slice none 0 0)/\w9.cell? ⟨w.heap.size,4,none⟩=some (.int .i64 0)/\w9.cell? ⟨w.heap.size,5,none⟩=some (.int .i64 0)/\w9.cell? ⟨w.heap.size,6,none⟩=some (.int .i64 0)/\w9.cell? ⟨w.heap.size,7,none⟩=some (.slice none 0 0))/\∀ o,w9.frozen? ⟨w.heap.size,o,none⟩=false:=by
 have hs:=hx.size
 have hlt:w.heap.size < (w.alloc (.cells #[.int .i64 0,.string ⟨#[]⟩,.slice none 0 0,.slice none 0 0,.int .i64 0,.int .i64 0,.int .i64 0,.slice none 0 0] 29)).heap.size:=by simp
 have hh:=(hx.block _ hlt (fun e=>by cases e;omega)).trans (box_nw w _)
 exact ⟨by simp at hs;omega,of8' hh,fun o=>frozen_free hh⟩
theorem fin8 {g B:Nat} {en:Int} {r:List Tk} {w w9:World} {v:Nv} {t:Nd} (hx:Nx g en r (w.alloc (.cells #[.int .i64 0,.string ⟨#[]⟩,.slice none 0 0,.slice none 0 0,.int .i64 0,.int .i64 0,.int .i64 0,.slice none 0 0] 29)) w9) (hg:g < w.heap.size) (hv:NdFrom w9 B v t) (hB:w.heap.size < B) :
  NdR g en w (.ok t r) (.returned v.val) ((((((((w9.setCell ⟨w.heap.size,0,none⟩ (.int .i64 v.kind)).setCell ⟨w.heap.size,1,none⟩ (.string v.attr)).setCell ⟨w.heap.size,2,none⟩ (.slice v.qi v.ni v.ci)).setCell ⟨w.heap.size,3,none⟩ (.slice v.qw v.nw v.cw)).setCell ⟨w.heap.size,4,none⟩ (.int .i64 v.lo)).setCell ⟨w.heap.size,5,none⟩ (.int .i64 v.hi)).setCell ⟨w.heap.size,6,none⟩ (.int .i64 v.op)).setCell ⟨w.heap.size,7,none⟩ (.slice v.qk v.nk v.ck)):=by
 have hlt:w.heap.size < (w.alloc (.cells #[.int .i64 0,.string ⟨#[]⟩,.slice none 0 0,.slice none 0 0,.int .i64 0,.int .i64 0,.int .i64 0,.slice none 0 0] 29)).heap.size:=by simp
 have hs:=hx.2.size
 have hb:Below w.heap.size w9 ((((((((w9.setCell ⟨w.heap.size,0,none⟩ (.int .i64 v.kind)).setCell ⟨w.heap.size,1,none⟩ (.string v.attr)).setCell ⟨w.heap.size,2,none⟩ (.slice v.qi v.ni v.ci)).setCell ⟨w.heap.size,3,none⟩ (.slice v.qw v.nw v.cw)).setCell ⟨w.heap.size,4,none⟩ (.int .i64 v.lo)).setCell ⟨w.heap.size,5,none⟩ (.int .i64 v.hi)).setCell ⟨w.heap.size,6,none⟩ (.int .i64 v.op)).setCell ⟨w.heap.size,7,none⟩ (.slice v.qk v.nk v.ck)):=set8_below (Below.refl _ _) (Nat.le_refl _) _ _ _ _ _ _ _ _
 refine ⟨⟨v,rfl,(hv.up (set8_up w9 hB _ _ _ _ _ _ _ _)).mono (by omega)⟩,hx.1.low fun k hk=>hb.block k (by omega), ?_⟩
 exact ⟨hb.os.trans hx.2.os,hb.tape.trans hx.2.tape,hb.output.trans hx.2.output,by have:=hb.size;simp at hs hlt;omega,fun k hk hr=>(hb.block k hk).trans ((hx.2.block k (by simp;omega) hr).trans ((bel_z w).block k hk))⟩
set_option maxHeartbeats 2000000 in
theorem bounds_any (g:Nat) (en:Int) (attr:ByteArray) (l:List Tk) (w:World) (hp:Ps w g en l) :
  Calls Tryz.prog 157 #[.pointer (some ⟨g,0,none⟩),.string attr] w fun e w'=>NdR g en w (bdL en attr l) e w':=by
 have hg:=hp.lt
 have h0:=hp.z
 have hf3:=fld3
 cases e1:ndL en 2 l with
 | bad p =>
  have hc1:=need_no g en 2 l p _ h0.1 e1
  have hx:bdL en attr l=.bad p:=by simp only [bdL,e1]
  rw [hx]
  clear hp e1 hx h0
  go_enter Tryz.func157,Tryz.ntmps157
  go_wp2_with (go_at_call 155;refine hc1.mono ?_;rintro e w' ⟨rfl,hb⟩;have HB:=hide hb;clear hb;simp only [refusal])
  exact ⟨rfl,rfl,gr_z (grown_bel (uh HB) _)⟩
 | ok t1 r1 =>
  have hc1:=need_yes g en 2 l r1 t1 _ h0.1 e1
  cases e2:sgL en ⟨#[44]⟩ r1 with
  | bad p =>
   have hx:bdL en attr l=.bad p:=by simp only [bdL,e1,e2]
   rw [hx]
   have E2:=hide e2
   clear hp e1 hx h0 e2
   unfold tkV at hc1
   go_enter Tryz.func157,Tryz.ntmps157
   go_wp2_with first
    | (go_at_call 155;refine hc1.mono ?_;rintro e w1 ⟨rfl,hx⟩;have X1:=hide hx;clear hx)
    | (go_at_call 140;refine (sign_no g en ⟨#[44]⟩ r1 p _ (uh X1).1 (uh E2)).mono ?_;rintro e w2 ⟨rfl,rfl⟩;simp only [refusal])
   exact ⟨rfl,rfl,gr_z (uh X1).2⟩
  | ok u2 r2 =>
   cases e3:ndL en 2 r2 with
   | bad p =>
    have hx:bdL en attr l=.bad p:=by simp only [bdL,e1,e2,e3]
    rw [hx]
    have E2:=hide e2
    have E3:=hide e3
    clear hp e1 hx h0 e2 e3
    unfold tkV at hc1
    go_enter Tryz.func157,Tryz.ntmps157
    go_wp2_with first
     | (go_at_call 155;refine (need_no g en 2 r2 p _ (uh X2).1 (uh E3)).mono ?_;rintro e w3 ⟨rfl,hb⟩;have HB:=hide hb;clear hb;simp only [refusal])
     | (go_at_call 155;refine hc1.mono ?_;rintro e w1 ⟨rfl,hx⟩;have X1:=hide hx;clear hx)
     | (go_at_call 140;refine (sign_yes g en ⟨#[44]⟩ r1 r2 u2 _ (uh X1).1 (uh E2)).mono ?_;rintro e w2 ⟨rfl,hx⟩;have X2:=hide ((uh X1).trans hx);clear hx)
    exact ⟨rfl,rfl,gr_z ((uh X2).2.trans (grown_bel (uh HB) _))⟩
   | ok t3 r3 =>
    cases e4:sgL en ⟨#[93]⟩ r3 with
    | bad p =>
     have hx:bdL en attr l=.bad p:=by simp only [bdL,e1,e2,e3,e4]
     rw [hx]
     have E2:=hide e2
     have E3:=hide e3
     have E4:=hide e4
     clear hp e1 hx h0 e2 e3 e4
     unfold tkV at hc1
     go_enter Tryz.func157,Tryz.ntmps157
     go_wp2_with first
      | (go_at_call 155;refine (need_yes g en 2 r2 r3 t3 _ (uh X2).1 (uh E3)).mono ?_;rintro e w3 ⟨rfl,hx⟩;have X3:=hide ((uh X2).trans hx);clear hx;unfold tkV)
      | (go_at_call 155;refine hc1.mono ?_;rintro e w1 ⟨rfl,hx⟩;have X1:=hide hx;clear hx)
      | (go_at_call 140;refine (sign_no g en ⟨#[93]⟩ r3 p _ (uh X3).1 (uh E4)).mono ?_;rintro e w4 ⟨rfl,rfl⟩;simp only [refusal])
      | (go_at_call 140;refine (sign_yes g en ⟨#[44]⟩ r1 r2 u2 _ (uh X1).1 (uh E2)).mono ?_;rintro e w2 ⟨rfl,hx⟩;have X2:=hide ((uh X1).trans hx);clear hx)
     exact ⟨rfl,rfl,gr_z (uh X3).2⟩
    | ok u4 r4 =>
     have hx:bdL en attr l=.ok (.mk 3 attr [] [] t1.2.2.2.1 t3.2.2.2.1 1 []) r4:=by simp only [bdL,e1,e2,e3,e4]
     rw [hx]
     have E2:=hide e2
     have E3:=hide e3
     have E4:=hide e4
     clear hp e1 hx h0 e2 e3 e4
     unfold tkV at hc1
     go_enter Tryz.func157,Tryz.ntmps157
     go_wp2_with first
      | (go_at_call 155;refine (need_yes g en 2 r2 r3 t3 _ (uh X2).1 (uh E3)).mono ?_;rintro e w3 ⟨rfl,hx⟩;have X3:=hide ((uh X2).trans hx);clear hx;unfold tkV)
      | (go_at_call 155;refine hc1.mono ?_;rintro e w1 ⟨rfl,hx⟩;have X1:=hide hx;clear hx)
      | (go_at_call 140;refine (sign_yes g en ⟨#[93]⟩ r3 r4 u4 _ (uh X3).1 (uh E4)).mono ?_;rintro e w4 ⟨rfl,hx⟩;have X4:=hide ((uh X3).trans hx);clear hx)
      | (go_at_call 140;refine (sign_yes g en ⟨#[44]⟩ r1 r2 u2 _ (uh X1).1 (uh E2)).mono ?_;rintro e w2 ⟨rfl,hx⟩;have X2:=hide ((uh X1).trans hx);clear hx)
      | (go_at_call 173;refine (range_any attr t1.2.2.2.1 t3.2.2.2.1 _).mono ?_;rintro e w5 ⟨⟨v,rfl,hv⟩,hb⟩;have X5:=hide ((uh X4).bel hb);have HV:=hide hv;clear hb hv;obtain ⟨z1,⟨q0,q1,q2,q3,q4,q5,q6,q7⟩,qf⟩:=res8 (uh X5).2 hg;unfold Nv.val)
     refine bodyPost_ret (v:=v.val) (by simp [results,Tryz.results157,go_sem,Nv.val, *]) rfl ?_
     exact fin8 (uh X5) hg (uh HV) (by have:=(uh X4).2.size;simp at this;omega)
end Go.Proofs.YtencibjmiphinaaGreatDoor
namespace Go.Proofs.YtencibjmiphinaaGreatDoor
open Go.RowKit
theorem mbL_len {en k:Int}:∀ (n:Nat) (acc l ts r:List Tk),acc.length<=64->mbL en k n acc l=.ok ts r->ts.length<=64
 | 0,acc,l,ts,r,_,h=>by simp [mbL] at h
 | n + 1,acc,l,ts,r,ha,h=>by
  simp only [mbL] at h
  split at h
  ·split at h
   ·cases h
   ·cases h;exact ha
  ·split at h
   ·cases h
   ·rename_i h64
    split at h
    ·cases h
    ·exact mbL_len n _ _ _ _ (by simp;omega) h
theorem msL_len {en k:Int} {l ts r:List Tk} (h:msL en k l=.ok ts r):ts.length<=64:=by
 unfold msL at h
 split at h
 ·cases h
 ·exact mbL_len _ _ _ _ _ (by simp) h
theorem words_n (attr:ByteArray) (q:Option Addr) (c:Nat) (l:List ByteArray) (n:Nat) (w:World) (h:SlOf encS 1 w q c l) (hn:l.length=n) (hl:n<=1000000000000) :
  Calls Tryz.prog 170 #[.string attr,.slice q n c] w fun e w'=>NewT w.heap.size w' (.mk 2 attr [] l 0 0 1 []) e/\Below w.heap.size w w':=by
 subst hn;exact words_any attr q c l w h hl
theorem ints_n (attr:ByteArray) (q:Option Addr) (c:Nat) (l:List Int) (n:Nat) (w:World) (h:SlOf encI 1 w q c l) (hn:l.length=n) (hl:n<=1000000000000) :
  Calls Tryz.prog 172 #[.string attr,.slice q n c] w fun e w'=>NewT w.heap.size w' (.mk 1 attr l [] 0 0 1 []) e/\Below w.heap.size w w':=by
 subst hn;exact ints_any attr q c l w h hl
set_option maxHeartbeats 2000000 in
theorem setS (g:Nat) (en:Int) (attr:ByteArray) (l:List Tk) (w:World) (hp:Ps w g en l) (hk:isK 3 l=true) :
  Calls Tryz.prog 156 #[.pointer (some ⟨g,0,none⟩),.string attr] w fun e w'=>NdR g en w (setL en attr l) e w':=by
 have hg:=hp.lt
 have h0:=hp.z
 have hmf:∀ (fn:Fn) (first cap:Array Value) (w:World),(Instr.makeFunc fn first cap).run Tryz.prog w=.ok (.func fn first cap) w:=fun _ _ _ _=>rfl
 have hn:=isNext_any g en 3 l _ h0.1
 rw [hk] at hn
 have hb2:Below (w.alloc (.cells #[.int .i64 0,.string ⟨#[]⟩,.slice none 0 0,.slice none 0 0,.int .i64 0,.int .i64 0,.int .i64 0,.slice none 0 0] 29)).heap.size (w.alloc (.cells #[.int .i64 0,.string ⟨#[]⟩,.slice none 0 0,.slice none 0 0,.int .i64 0,.int .i64 0,.int .i64 0,.slice none 0 0] 29)) ((w.alloc (.cells #[.int .i64 0,.string ⟨#[]⟩,.slice none 0 0,.slice none 0 0,.int .i64 0,.int .i64 0,.int .i64 0,.slice none 0 0] 29)).alloc (.cells #[.slice none 0 0] 24)):=(Below.refl _ _).alloc (Nat.le_refl _) _
 have hm:=mbrsS g (w.heap.size + 1) en l (w.alloc (.cells #[.int .i64 0,.string ⟨#[]⟩,.slice none 0 0,.slice none 0 0,.int .i64 0,.int .i64 0,.int .i64 0,.slice none 0 0] 29)) ((w.alloc (.cells #[.int .i64 0,.string ⟨#[]⟩,.slice none 0 0,.slice none 0 0,.int .i64 0,.int .i64 0,.int .i64 0,.slice none 0 0] 29)).alloc (.cells #[.slice none 0 0] 24)) (h0.bel hb2) ⟨none,0,by have:=box_nw (w.alloc (.cells #[.int .i64 0,.string ⟨#[]⟩,.slice none 0 0,.slice none 0 0,.int .i64 0,.int .i64 0,.int .i64 0,.slice none 0 0] 29)) (.cells #[.slice none 0 0] 24);simpa using this,OwnK.nil _ _⟩ (by simp) (by omega)
 cases em:msL en 3 l with
 | bad p =>
  have hx:setL en attr l=.bad p:=by simp only [setL,hk,em];simp
  rw [hx]
  rw [em] at hm
  clear hp em hx h0 hk hb2
  go_enter Tryz.func156,Tryz.ntmps156
  go_wp2_with first
   | (go_at_call 139;refine hn.mono ?_;rintro e w1 ⟨rfl,rfl⟩)
   | (go_at_call 168;refine hm.mono ?_;rintro e w2 ⟨rfl,hx⟩;have HX:=hide hx;clear hx;simp only [refusal])
  exact ⟨rfl,rfl,gr_z (uh HX)⟩
 | ok ts r =>
  have hx:setL en attr l=.ok (.mk 2 attr [] (ts.map (·.2.2.2.2)) 0 0 1 []) r:=by simp only [setL,hk,em];simp
  rw [hx]
  have hl:=msL_len em
  have hl2:(ts.map (·.2.2.2.2)).length=ts.length:=by simp
  have HL2:=hide hl2
  rw [em] at hm
  clear hp em hx h0 hk hb2 hl2
  go_enter Tryz.func156,Tryz.ntmps156
  go_wp2_with first
   | (go_at_call 139;refine hn.mono ?_;rintro e w1 ⟨rfl,rfl⟩)
   | (go_at_call 168;refine hm.mono ?_;rintro e w2 ⟨rfl,hx,q,c,k0,k1⟩;have HX:=hide hx;have K1:=hide k1;have k2:=(of1 k0).1;clear hx k0 k1)
   | (go_at_call 170;refine (words_n attr q c _ ts.length _ (uh K1).ls (uh HL2) (by omega)).mono ?_;rintro e w5 ⟨⟨v,rfl,hv⟩,hb⟩;have X5:=hide ((uh HX).bel hb);have HV:=hide hv;clear hb hv;obtain ⟨z1,⟨q0,q1,q2,q3,q4,q5,q6,q7⟩,qf⟩:=res8 (uh X5).2 hg;unfold Nv.val)
  refine bodyPost_ret (v:=v.val) (by simp [results,Tryz.results156,go_sem,Nv.val, *]) rfl ?_
  exact fin8 (uh X5) hg (uh HV) (by have:=(uh HX).2.size;simp at this;omega)
set_option maxHeartbeats 2000000 in
theorem setI (g:Nat) (en:Int) (attr:ByteArray) (l:List Tk) (w:World) (hp:Ps w g en l) (hk:isK 3 l=false) :
  Calls Tryz.prog 156 #[.pointer (some ⟨g,0,none⟩),.string attr] w fun e w'=>NdR g en w (setL en attr l) e w':=by
 have hg:=hp.lt
 have h0:=hp.z
 have hmf:∀ (fn:Fn) (first cap:Array Value) (w:World),(Instr.makeFunc fn first cap).run Tryz.prog w=.ok (.func fn first cap) w:=fun _ _ _ _=>rfl
 have hn:=isNext_any g en 3 l _ h0.1
 rw [hk] at hn
 have hb2:Below (w.alloc (.cells #[.int .i64 0,.string ⟨#[]⟩,.slice none 0 0,.slice none 0 0,.int .i64 0,.int .i64 0,.int .i64 0,.slice none 0 0] 29)).heap.size (w.alloc (.cells #[.int .i64 0,.string ⟨#[]⟩,.slice none 0 0,.slice none 0 0,.int .i64 0,.int .i64 0,.int .i64 0,.slice none 0 0] 29)) ((w.alloc (.cells #[.int .i64 0,.string ⟨#[]⟩,.slice none 0 0,.slice none 0 0,.int .i64 0,.int .i64 0,.int .i64 0,.slice none 0 0] 29)).alloc (.cells #[.slice none 0 0] 23)):=(Below.refl _ _).alloc (Nat.le_refl _) _
 have hm:=mbrsI g (w.heap.size + 1) en l (w.alloc (.cells #[.int .i64 0,.string ⟨#[]⟩,.slice none 0 0,.slice none 0 0,.int .i64 0,.int .i64 0,.int .i64 0,.slice none 0 0] 29)) ((w.alloc (.cells #[.int .i64 0,.string ⟨#[]⟩,.slice none 0 0,.slice none 0 0,.int .i64 0,.int .i64 0,.int .i64 0,.slice none 0 0] 29)).alloc (.cells #[.slice none 0 0] 23)) (h0.bel hb2) ⟨none,0,by have:=box_nw (w.alloc (.cells #[.int .i64 0,.string ⟨#[]⟩,.slice none 0 0,.slice none 0 0,.int .i64 0,.int .i64 0,.int .i64 0,.slice none 0 0] 29)) (.cells #[.slice none 0 0] 23);simpa using this,OwnK.nil _ _⟩ (by simp) (by omega)
 cases em:msL en 2 l with
 | bad p =>
  have hx:setL en attr l=.bad p:=by simp only [setL,hk,em];simp
  rw [hx]
  rw [em] at hm
  clear hp em hx h0 hk hb2
  go_enter Tryz.func156,Tryz.ntmps156
  go_wp2_with first
   | (go_at_call 139;refine hn.mono ?_;rintro e w1 ⟨rfl,rfl⟩)
   | (go_at_call 168;refine hm.mono ?_;rintro e w2 ⟨rfl,hx⟩;have HX:=hide hx;clear hx;simp only [refusal])
  exact ⟨rfl,rfl,gr_z (uh HX)⟩
 | ok ts r =>
  have hx:setL en attr l=.ok (.mk 1 attr (ts.map (·.2.2.2.1)) [] 0 0 1 []) r:=by simp only [setL,hk,em];simp
  rw [hx]
  have hl:=msL_len em
  have hl2:(ts.map (·.2.2.2.1)).length=ts.length:=by simp
  have HL2:=hide hl2
  rw [em] at hm
  clear hp em hx h0 hk hb2 hl2
  go_enter Tryz.func156,Tryz.ntmps156
  go_wp2_with first
   | (go_at_call 139;refine hn.mono ?_;rintro e w1 ⟨rfl,rfl⟩)
   | (go_at_call 168;refine hm.mono ?_;rintro e w2 ⟨rfl,hx,q,c,k0,k1⟩;have HX:=hide hx;have K1:=hide k1;have k2:=(of1 k0).1;clear hx k0 k1)
   | (go_at_call 172;refine (ints_n attr q c _ ts.length _ (uh K1).ls (uh HL2) (by omega)).mono ?_;rintro e w5 ⟨⟨v,rfl,hv⟩,hb⟩;have X5:=hide ((uh HX).bel hb);have HV:=hide hv;clear hb hv;obtain ⟨z1,⟨q0,q1,q2,q3,q4,q5,q6,q7⟩,qf⟩:=res8 (uh X5).2 hg;unfold Nv.val)
  refine bodyPost_ret (v:=v.val) (by simp [results,Tryz.results156,go_sem,Nv.val, *]) rfl ?_
  exact fin8 (uh X5) hg (uh HV) (by have:=(uh HX).2.size;simp at this;omega)
theorem set_any (g:Nat) (en:Int) (attr:ByteArray) (l:List Tk) (w:World) (hp:Ps w g en l) :
  Calls Tryz.prog 156 #[.pointer (some ⟨g,0,none⟩),.string attr] w fun e w'=>NdR g en w (setL en attr l) e w':=by
 cases h:isK 3 l with
 | true=>exact setS g en attr l w hp h
 | false=>exact setI g en attr l w hp h
end Go.Proofs.YtencibjmiphinaaGreatDoor
namespace Go.Proofs
open Go.Shelf
def Tryz.cloneStr_ren:Go.Shelf.Ren:=⟨fun | 316=>167 | n=>n,fun | 9=>9 | 3=>3 | 4=>4 | 37=>87 | 0=>0 | 127=>117 | 5=>5 | n=>n,fun | n=>n⟩
theorem Tryz.cloneStr:Go.Proofs.LaysM.n316 Tryz.prog Tryz.cloneStr_ren:={
 mixed:=by kernel_rfl
 f316:=Tryz.func167.trans (congrArg some (by kernel_rfl))
 t0:=Tryz.underlying0
 a0:=Tryz.isAgg0
 z0:=Tryz.sizeOf0
 v0:=Tryz.zeroValue0
 t3:=Tryz.underlying3
 a3:=Tryz.isAgg3
 z3:=Tryz.sizeOf3
 v3:=Tryz.zeroValue3
 t4:=Tryz.underlying4
 a4:=Tryz.isAgg4
 z4:=Tryz.sizeOf4
 v4:=Tryz.zeroValue4
 t9:=Tryz.underlying9
 a9:=Tryz.isAgg9
 z9:=Tryz.sizeOf9
 v9:=Tryz.zeroValue9
 t37:=Tryz.underlying87
 a37:=Tryz.isAgg87
 z37:=Tryz.sizeOf87
 v37:=Tryz.zeroValue87
 t127:=Tryz.underlying117
 a127:=Tryz.isAgg117
 z127:=Tryz.sizeOf117
 v127:=Tryz.zeroValue117
 t5:=Tryz.underlying5
 a5:=Tryz.isAgg5
 z5:=Tryz.sizeOf5
 v5:=Tryz.zeroValue5
 i0:=by kernel_rfl
 i3:=by kernel_rfl
 i4:=by kernel_rfl
 i5:=by kernel_rfl
 i9:=by kernel_rfl
 i37:=by kernel_rfl
 i127:=by kernel_rfl }
end Go.Proofs
namespace Go.Proofs.YtencibjmiphinaaGreatDoor
open Go.RowKit Go.Shelf
theorem strClone (s:ByteArray) (hs:s.size<=281474976710656) (w:World):Calls Tryz.prog 154 #[.string s] w fun e w'=>e=.returned (.string s)/\Below w.heap.size w w':=by
 have hcon:=Any.stringslite_Clone Tryz.cloneStr s w hs
 change Calls Tryz.prog 167 _ _ _ at hcon
 go_enter Tryz.func154,Tryz.ntmps154
 go_wp2_with (go_at_call 167;refine hcon.mono ?_;rintro e w1 ⟨rfl,b1⟩;have B1:=hide b1;clear b1)
 go_ret
 exact ⟨rfl,uh B1⟩
end Go.Proofs.YtencibjmiphinaaGreatDoor

/- What schema.Get, slices.Contains and strings.HasPrefix return, at these programs' types. -/
import Derived.Test.YtikhopiegaoacacDZab
namespace Go.Proofs.Ytikhopiegaoacac
open Go.RowKit Go.Sort

structure Pr where
 name:ByteArray
 kind:Int
 int:Int
 word:ByteArray
instance:Inhabited Pr:=⟨⟨⟨#[]⟩,0,0,⟨#[]⟩⟩⟩
def encP (x:Pr):List Value:=[.string x.name,.int .i64 x.kind,.int .i64 x.int,.string x.word]
theorem prsAt {w:World} {q:Option Addr} {c:Nat} {l:List Pr} {j:Nat} {x:Pr} (h:SlOf encP 4 w q c l) (hj:l[j]? = some x):∃ b off,q=some ⟨b,off,none⟩∧b < w.heap.size∧w.cell? ⟨b,off + j * 4,none⟩=some (.string x.name)∧w.cell? ⟨b,off + j * 4 + 1,none⟩=some (.int .i64 x.kind)∧w.cell? ⟨b,off + j * 4 + 2,none⟩=some (.int .i64 x.int)∧w.cell? ⟨b,off + j * 4 + 3,none⟩=some (.string x.word):=by
 obtain ⟨b,off,hq,hb,hc⟩:=h.2.2.2.at hj
 exact ⟨b,off,hq,hb,hc 0 (by decide),hc 1 (by decide),hc 2 (by decide),hc 3 (by decide)⟩
/-- The first pair of that name. -/
def getP (s:ByteArray):List Pr→Option Pr
 | []=>none
 | x :: xs=>if x.name.toList == s.toList then some x else getP s xs
theorem get_yes {l:List Pr} {s:ByteArray} {k:Nat} {x:Pr} (h:getP s l=getP s (l.drop k)) (hd:l.drop k=x :: l.drop (k + 1)) (hq:(x.name.toList == s.toList)=true):getP s l=some x:=by rw [h,hd];simp [getP,hq]
theorem get_no {l:List Pr} {s:ByteArray} {k:Nat} {x:Pr} (h:getP s l=getP s (l.drop k)) (hd:l.drop k=x :: l.drop (k + 1)) (hq:(x.name.toList == s.toList)=false):getP s l=getP s (l.drop (k + 1)):=by rw [h,hd];simp [getP,hq]
theorem get_end {l:List Pr} {s:ByteArray} {k:Nat} (h:getP s l=getP s (l.drop k)) (hk:¬ k < l.length):getP s l=none:=by rw [h,List.drop_eq_nil_of_le (by omega)];rfl
def getV (o:Option Pr):Value :=
 match o with
 | some y=>.tuple #[.agg #[.int .i64 y.kind,.int .i64 y.int,.string y.word],.bool true]
 | none=>.tuple #[.agg #[.int .i64 0,.int .i64 0,.string ⟨#[]⟩],.bool false]

/-- The block b holds one value, and may be written. -/
def Box (w:World) (b:Nat) (x:Int × Int × ByteArray):Prop :=
 w.cell? ⟨b,0,none⟩=some (.int .i64 x.1)∧w.cell? ⟨b,1,none⟩=some (.int .i64 x.2.1)∧w.cell? ⟨b,2,none⟩=some (.string x.2.2)∧(∀ o,w.frozen? ⟨b,o,none⟩=false)∧b < w.heap.size
theorem Box.below {w w':World} {b:Nat} {x:Int × Int × ByteArray} (h:Box w b x) (hb:Below w.heap.size w w'):Box w' b x:=by
 obtain ⟨h1,h2,h3,h4,h5⟩:=h
 exact ⟨(hb.cell (by exact h5)).trans h1,(hb.cell (by exact h5)).trans h2,(hb.cell (by exact h5)).trans h3,fun o=>(hb.frozen (by exact h5)).trans (h4 o),Nat.lt_of_lt_of_le h5 hb.size⟩
def put3 (w:World) (b:Nat) (y:Int × Int × ByteArray):World:=((w.setCell ⟨b,0,none⟩ (.int .i64 y.1)).setCell ⟨b,1,none⟩ (.int .i64 y.2.1)).setCell ⟨b,2,none⟩ (.string y.2.2)
theorem below_put3 {B:Nat} (w:World) (b:Nat) (y:Int × Int × ByteArray) (h:B≤b):Below B w (put3 w b y) :=
 (((Below.refl _ _).setCell h _).setCell h _).setCell h _
theorem Box.put {w:World} {b:Nat} {x:Int × Int × ByteArray} (h:Box w b x) (y:Int × Int × ByteArray):Box (put3 w b y) b y:=by
 obtain ⟨h1,h2,h3,h4,h5⟩:=h
 unfold put3
 refine ⟨?_, ?_, ?_,fun o=>?_, ?_⟩
 ·go_simp
 ·go_simp
 ·go_simp
 ·go_simp
 ·simpa [World.setCell] using h5
theorem Box.new (w:World) (x:Int × Int × ByteArray) (t:TypeId):Box (w.alloc (.cells #[.int .i64 x.1,.int .i64 x.2.1,.string x.2.2] t)) w.heap.size x:=by
 refine ⟨?_, ?_, ?_,fun o=>?_,by simp⟩ <;> simp
theorem Box.alloc {w:World} {b:Nat} {x:Int × Int × ByteArray} (h:Box w b x) (o:Obj):Box (w.alloc o) b x:=h.below ((Below.refl _ _).alloc (Nat.le_refl _) _)

set_option maxHeartbeats 1000000 in
theorem get_any (p:Option Addr) (cap:Nat) (l:List Pr) (s:ByteArray) (w:World) (hm:l.length≤140737488355328) (hA:SlOf encP 4 w p cap l) :
  Calls Try.prog 54 #[.slice p l.length cap,.string s] w fun e w'=>e=.returned (getV (getP s l))∧Below w.heap.size w w':=by
 have HA:=hide hA
 clear hA
 go_enter Try.func54,Try.ntmps54
 go_wp2
 go_loopw [10] (fun i wr=>∃ k:Nat,k≤l.length∧i=.int .i64 k∧Below w.heap.size w wr∧Box wr w.heap.size (0,0,⟨#[]⟩)∧getP s l=getP s (l.drop k)) (fun i _=>l.length - (intOf i).toNat)
 case atStart=>exact ⟨0,by omega,rfl,(Below.refl _ _).alloc (Nat.le_refl _) _,Box.new w (0,0,⟨#[]⟩) 46,by simp⟩
 case round =>
  obtain ⟨k,hk,rfl,hbel,hbox,heq⟩:=hrel
  have Heq:=hide heq
  clear heq
  by_cases hlt:k < l.length
  ·obtain ⟨x,hx,hd⟩:=get_at hlt
   obtain ⟨bb,off,rfl,hbb,g0,g1,g2,g3⟩:=prsAt ((uh HA).below hbel) hx
   have Hd:=hide hd
   clear hd
   have ki0:(0:Int)≤(k:Int):=by omega
   have ki1:(k:Int) < (l.length:Int):=by omega
   have Hx:=hide hx
   clear hx
   cases hq:(x.name.toList == s.toList) with
   | true =>
    have Hy:=hide (get_yes (uh Heq) (uh Hd) hq)
    have Hb:=hide hbox
    obtain ⟨r0,r1,r2,fr0,sz0⟩:=hbox
    simp only at r0 r1 r2
    go_wp2
    obtain ⟨z0,z1,z2,_,_⟩:=((uh Hb).put (x.kind,x.int,x.word)).alloc (.cells #[.string x.name,.int .i64 x.kind,.int .i64 x.int,.string x.word] 48)
    unfold put3 at z0 z1 z2
    refine bodyPost_ret (v:=.tuple #[.agg #[.int .i64 x.kind,.int .i64 x.int,.string x.word],.bool true]) (by simp [results,Try.results54,go_sem,z0,z1,z2]) rfl ⟨by rw [uh Hy];rfl, ?_⟩
    have hq2:=hbel.trans (below_put3 wr w.heap.size (x.kind,x.int,x.word) (Nat.le_refl _))
    exact hq2.alloc hq2.size _
   | false =>
    have Hy:=hide (get_no (uh Heq) (uh Hd) hq)
    have Hb:=hide (hbox.alloc (.cells #[.string x.name,.int .i64 x.kind,.int .i64 x.int,.string x.word] 48))
    clear hbox
    go_wp2
    go_roundw
    case rel=>exact ⟨k + 1,by omega,by go_num,hbel.alloc hbel.size _,uh Hb,uh Hy⟩
    case measure=>simp [intOf];omega
  ·obtain rfl:k=l.length:=by omega
   have Hy:=hide (get_end (uh Heq) hlt)
   have Hb:=hide hbox
   obtain ⟨r0,r1,r2,fr0,sz0⟩:=hbox
   simp only at r0 r1 r2
   go_wp2
   have hb3:=(uh Hb).put (0,0,⟨#[]⟩)
   obtain ⟨z0,z1,z2,_,_⟩:=hb3
   unfold put3 at z0 z1 z2
   refine bodyPost_ret (v:=.tuple #[.agg #[.int .i64 0,.int .i64 0,.string ⟨#[]⟩],.bool false]) (by simp [results,Try.results54,go_sem,r0,r1,r2]) rfl ⟨by rw [uh Hy];rfl, ?_⟩
   exact hbel.trans (below_put3 _ w.heap.size (0,0,⟨#[]⟩) (Nat.le_refl _))

/-- Is it among them? -/
def hasI (v:Int) (l:List Int):Bool:=l.any (fun x=>v == x)
def hasS (v:ByteArray) (l:List ByteArray):Bool:=l.any (fun x=>v.toList == x.toList)
theorem any_yes {α:Type} {f:α→Bool} {l:List α} {k:Nat} {x:α} (hx:l[k]? = some x) (h:f x=true):l.any f=true:=List.any_eq_true.2 ⟨x,List.mem_of_getElem? hx,h⟩
theorem any_none {α:Type} {f:α→Bool} {l:List α} (h:∀ (j:Nat) (x:α),j < l.length→l[j]? = some x→f x=false):l.any f=false:=by
 apply List.any_eq_false.2
 intro x hx
 obtain ⟨j,hj,rfl⟩:=List.getElem_of_mem hx
 simp [h j _ hj (List.getElem?_eq_getElem hj)]
set_option maxRecDepth 100000 in
set_option maxHeartbeats 1000000 in
theorem indexI (q:Option Addr) (c:Nat) (l:List Int) (v:Int) (w:World) (hl:l.length≤140737488355328) (h:SlOf encI 1 w q c l) :
  Calls Try.prog 72 #[.slice q l.length c,.int .i64 v] w fun e w'=>(∃ n:Int,e=.returned (.int .i64 n)∧decide (0≤n)=hasI v l)∧Below w.heap.size w w':=by
 have HA:=hide h
 clear h
 go_enter Try.func72,Try.ntmps72
 go_wp2
 go_loopw [8] (fun i wr=>∃ k:Nat,k≤l.length∧i=.int .i64 k∧Below w.heap.size w wr∧(∀ (j:Nat) (x:Int),j < k→l[j]? = some x→(v == x)=false)) (fun i _=>l.length - (intOf i).toNat)
 case atStart=>exact ⟨0,by omega,rfl,Below.refl _ _,fun j x hj=>by omega⟩
 case round =>
  obtain ⟨k,hk,rfl,hbel,hno⟩:=hrel
  have HNo:=hide hno
  clear hno
  by_cases hlt:k < l.length
  ·obtain ⟨x,hx,hd⟩:=get_at hlt
   clear hd
   obtain ⟨bb,off,rfl,hbb,g0⟩:=intsAt ((uh HA).below hbel) hx
   have ki0:(0:Int)≤(k:Int):=by omega
   have ki1:(k:Int) < (l.length:Int):=by omega
   have Hx:=hide hx
   clear hx
   cases hq:(v == x) with
   | true =>
    go_wp2
    go_ret
    exact ⟨⟨_,rfl,by rw [show hasI v l=true from any_yes (uh Hx) hq];simp⟩,hbel⟩
   | false =>
    have HN2:Hid (∀ (j:Nat) (y:Int),j < k + 1→l[j]? = some y→(v == y)=false):=hide (fun j y hj hy=>by
     by_cases e:j=k
     ·subst e;rw [uh Hx] at hy;cases hy;exact hq
     ·exact uh HNo j y (by omega) hy)
    go_wp2
    go_roundw
    case rel=>exact ⟨k + 1,by omega,by go_num,hbel,uh HN2⟩
    case measure=>simp [intOf];omega
  ·have ki1:¬ (k:Int) < (l.length:Int):=by omega
   have HE:=hide (show hasI v l=false from any_none (fun j x hj hx=>uh HNo j x (by omega) hx))
   go_wp2
   go_ret
   exact ⟨⟨_,rfl,by rw [uh HE];decide⟩,hbel⟩
theorem containsI (q:Option Addr) (c:Nat) (l:List Int) (v:Int) (w:World) (hl:l.length≤140737488355328) (h:SlOf encI 1 w q c l) :
  Calls Try.prog 56 #[.slice q l.length c,.int .i64 v] w fun e w'=>e=.returned (.bool (hasI v l))∧Below w.heap.size w w':=by
 have hi:=indexI q c l v w hl h
 clear h
 go_enter Try.func56,Try.ntmps56
 go_wp2_with (go_at_call 72;refine hi.mono ?_;rintro e w1 ⟨⟨n,rfl,hn⟩,b1⟩;have HN:=hide hn;have B1:=hide b1;clear hn b1)
 all_goals
  go_ret
  exact ⟨ret_bool (by rw [← uh HN]),uh B1⟩
set_option maxRecDepth 100000 in
set_option maxHeartbeats 1000000 in
theorem indexS (q:Option Addr) (c:Nat) (l:List ByteArray) (v:ByteArray) (w:World) (hl:l.length≤140737488355328) (h:SlOf encS 1 w q c l) :
  Calls Try.prog 73 #[.slice q l.length c,.string v] w fun e w'=>(∃ n:Int,e=.returned (.int .i64 n)∧decide (0≤n)=hasS v l)∧Below w.heap.size w w':=by
 have HA:=hide h
 clear h
 go_enter Try.func73,Try.ntmps73
 go_wp2
 go_loopw [8] (fun i wr=>∃ k:Nat,k≤l.length∧i=.int .i64 k∧Below w.heap.size w wr∧(∀ (j:Nat) (x:ByteArray),j < k→l[j]? = some x→(v.toList == x.toList)=false)) (fun i _=>l.length - (intOf i).toNat)
 case atStart=>exact ⟨0,by omega,rfl,Below.refl _ _,fun j x hj=>by omega⟩
 case round =>
  obtain ⟨k,hk,rfl,hbel,hno⟩:=hrel
  have HNo:=hide hno
  clear hno
  by_cases hlt:k < l.length
  ·obtain ⟨x,hx,hd⟩:=get_at hlt
   clear hd
   obtain ⟨bb,off,rfl,hbb,g0⟩:=wordsAt ((uh HA).below hbel) hx
   have ki0:(0:Int)≤(k:Int):=by omega
   have ki1:(k:Int) < (l.length:Int):=by omega
   have Hx:=hide hx
   clear hx
   cases hq:(v.toList == x.toList) with
   | true =>
    go_wp2
    go_ret
    exact ⟨⟨_,rfl,by rw [show hasS v l=true from any_yes (uh Hx) hq];simp⟩,hbel⟩
   | false =>
    have HN2:Hid (∀ (j:Nat) (y:ByteArray),j < k + 1→l[j]? = some y→(v.toList == y.toList)=false):=hide (fun j y hj hy=>by
     by_cases e:j=k
     ·subst e;rw [uh Hx] at hy;cases hy;exact hq
     ·exact uh HNo j y (by omega) hy)
    go_wp2
    go_roundw
    case rel=>exact ⟨k + 1,by omega,by go_num,hbel,uh HN2⟩
    case measure=>simp [intOf];omega
  ·have ki1:¬ (k:Int) < (l.length:Int):=by omega
   have HE:=hide (show hasS v l=false from any_none (fun j x hj hx=>uh HNo j x (by omega) hx))
   go_wp2
   go_ret
   exact ⟨⟨_,rfl,by rw [uh HE];decide⟩,hbel⟩
theorem containsS (q:Option Addr) (c:Nat) (l:List ByteArray) (v:ByteArray) (w:World) (hl:l.length≤140737488355328) (h:SlOf encS 1 w q c l) :
  Calls Try.prog 57 #[.slice q l.length c,.string v] w fun e w'=>e=.returned (.bool (hasS v l))∧Below w.heap.size w w':=by
 have hi:=indexS q c l v w hl h
 clear h
 go_enter Try.func57,Try.ntmps57
 go_wp2_with (go_at_call 73;refine hi.mono ?_;rintro e w1 ⟨⟨n,rfl,hn⟩,b1⟩;have HN:=hide hn;have B1:=hide b1;clear hn b1)
 all_goals
  go_ret
  exact ⟨ret_bool (by rw [← uh HN]),uh B1⟩
def prefB (s p:ByteArray):Bool:=decide (p.size≤s.size) && ((s.extract 0 p.size).toList == p.toList)
set_option maxHeartbeats 1000000 in
theorem hasPrefix_lite (s p:ByteArray) (w:World):Calls Try.prog 74 #[.string s,.string p] w fun e w'=>e=.returned (.bool (prefB s p))∧Below w.heap.size w w':=by
 by_cases hl:p.size≤s.size
 ·have h1:(p.size:Int)≤(s.size:Int):=by omega
  go_enter Try.func74,Try.ntmps74
  go_wp2
  go_ret
  exact ⟨ret_bool (by simp [prefB,hl]),Below.refl _ _⟩
 ·have h1:¬ (p.size:Int)≤(s.size:Int):=by omega
  go_enter Try.func74,Try.ntmps74
  go_wp2
  go_ret
  exact ⟨ret_bool (by simp [prefB,hl]),Below.refl _ _⟩
theorem hasPrefix_any (s p:ByteArray) (w:World):Calls Try.prog 58 #[.string s,.string p] w fun e w'=>e=.returned (.bool (prefB s p))∧Below w.heap.size w w':=by
 have hi:=hasPrefix_lite s p w
 generalize prefB s p=r at hi ⊢
 go_enter Try.func58,Try.ntmps58
 go_wp2_with (go_at_call 74;refine hi.mono ?_;rintro e w1 ⟨rfl,b1⟩;have B1:=hide b1;clear b1)
 go_ret
 exact ⟨rfl,uh B1⟩
end Go.Proofs.Ytikhopiegaoacac

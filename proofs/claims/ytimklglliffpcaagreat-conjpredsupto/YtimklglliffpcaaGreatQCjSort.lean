/- slices.SortFunc over predicates, by conj.Compare. -/
import Derived.Test.YtimklglliffpcaaGreatQCjCmpD
namespace Go.Proofs.YtimklglliffpcaaGreat
open Go.RowKit Go.Sort Go.Shelf
theorem Qr {α β:Type} [Inhabited α] [Inhabited β] (f:α->β) (enc:β->List Value) (k:Nat) (d:Array α):flatK (fun x=>enc (f x)) k d=flatK enc k (d.map f):=by
 unfold flatK
 rw [Array.size_map]
 apply Array.map_congr_left
 intro t ht
 have ht':t < d.size * k:=by simpa using ht
 have hk:0 < k:=by
  rcases Nat.eq_zero_or_pos k with e | e
  ·subst e;simp at ht'
  ·exact e
 have hq:t / k < d.size:=(Nat.div_lt_iff_lt_mul hk).2 ht'
 rw [getElem!_pos d _ hq,getElem!_pos (d.map f) _ (by simpa using hq),Array.getElem_map]
theorem tm {α:Type} [Inhabited α] {enc:α->List Value} {k:Nat} (w:World) (g n:Nat) (d:Array α) (os:Array Obj):w.grownBy (sortWorldK enc k w g 0 n d os) (some g):=by
 unfold sortWorldK putRowK
 refine ⟨rfl,rfl,rfl,by simp [grow,putRow,mapBlock,Sort.ahead],fun j hj hr=>?_⟩
 have hne:g ≠ j:=fun e=>hr (by rw [e])
 simp only [grow,putRow,mapBlock,Sort.ahead]
 rw [Array.getElem?_append_left (by simpa using hj)]
 simp [Array.getElem?_modify,hne]
theorem J2 {α:Type} [Inhabited α] {enc:α->List Value} {k:Nat} (w:World) (g n:Nat) (d:Array α) (os:Array Obj) (hg:g < w.heap.size):Below g w (sortWorldK enc k w g 0 n d os):=by
 have h:=tm (enc:=enc) (k:=k) w g n d os
 exact ⟨h.os,h.tape,h.output,h.size,fun j hj=>h.block j (by omega) (fun e=>by injection e with e;omega)⟩
theorem Kg {α:Type} [Inhabited α] {enc:α->List Value} {k:Nat} {w:World} {g n:Nat} {d d':Array α} {os:Array Obj} (hg:g < w.heap.size) (h:HoldsK enc k w g 0 d) (hs:d'.size=d.size):HoldsK enc k (sortWorldK enc k w g 0 n d' os) g 0 d':=by
 have hz:(putRowK enc k (Sort.ahead w n) g 0 d').heap.size=w.heap.size:=by
  unfold putRowK;simp
 unfold sortWorldK
 exact holdsK_grow _ _ _ _ _ _ _ (by rw [hz];exact hg) (holdsK_putRowK _ _ _ _ _ d d' (holdsK_ahead _ _ _ _ _ _ _ h) hs)
theorem Lc {α:Type} [Inhabited α] {enc:α->List Value} {k:Nat} {w:World} {g n:Nat} {d:Array α} {os:Array Obj} {cur:Array Value} {e:TypeId} {fr:Nat × Nat} (h:w.heap[g]? = some (.cells cur e fr)):∃ cur',(sortWorldK enc k w g 0 n d os).heap[g]? = some (.cells cur' e fr)/\cur'.size=cur.size:=by
 have hg:g < w.heap.size:=(Array.getElem?_eq_some_iff.1 h).1
 unfold sortWorldK putRowK
 simp only [grow,putRow,mapBlock,Sort.ahead]
 rw [Array.getElem?_append_left (by simpa using hg),Array.getElem?_modify]
 simp only [if_true,h,Option.map_some]
 exact ⟨_,rfl,by simp [putCells]⟩
theorem R5 {α:Type} [Inhabited α] {d d':Array α} (h:PermIn 0 d.size d d'):d'.toList.Perm d.toList:=by
 obtain ⟨hs,_,hp⟩:=h
 rw [<- hs] at hp
 have e1:d'.extract 0 d'.size=d':=Array.extract_size
 have e2:d.extract 0 d'.size=d:=by rw [hs];exact Array.extract_size
 rw [e1,e2] at hp
 exact hp
/-- A whole row that holds l. -/
theorem Fa (w:World) (g t:Nat) (cur:Array Value) (e:TypeId) (fr:Nat × Nat) (h:w.heap[g]? = some (.cells cur e fr)):w.cell? ⟨g,t,none⟩=cur[t]?:=by
 unfold World.cell?
 simp [h]
theorem OwnK.of_holdsD {α:Type} [Inhabited α] {enc:α->List Value} {B g cap k:Nat} {e:TypeId} {w:World} {l:List α} {cur:Array Value} (hB:B<=g) (hblk:w.heap[g]? = some (.cells cur e (0,0))) (hs:cur.size=cap * k) (h1:l.length<=cap) (h2:cap<=maxLen) (hH:HoldsK enc k w g 0 l.toArray):OwnK enc e k B w (some ⟨g,0,none⟩) cap l:=by
 refine ⟨by simp,Or.inr ⟨g,cap,cur,rfl,hB,hblk,h1,h2,hs, ?_⟩⟩
 apply List.ext_getElem?
 intro t
 by_cases ht:t < l.length * k
 ·have hc:=(hH t (by simpa using ht)).1
  rw [Nat.zero_add,Fa w g t cur e (0,0) hblk] at hc
  rw [List.getElem?_take,if_pos ht,Array.getElem?_toList,hc]
  have hf:t < (flatK enc k l.toArray).size:=by simpa using ht
  rw [Array.getElem?_toList,Array.getElem?_eq_getElem hf,getElem!_pos _ t hf]
  rfl
 ·rw [List.getElem?_eq_none (by rw [List.length_take];omega),List.getElem?_eq_none (by simp;omega)]
/-- A predicate in memory that no write into block g reaches. -/
def Pz (B:Nat) (w:World) (g:Nat):Type:={x:Pv × Pd // x.2.small/\OffP B (fun W=>PdFrom W B x.1 x.2) (some g) w}
instance (B:Nat) (w:World) (g:Nat):Inhabited (Pz B w g):=⟨⟨(pc,pr),⟨by decide,by decide⟩,fun W _ _=>⟨pn W,(fun a e=>by cases e),(fun a e=>by cases e)⟩⟩⟩
def k7 {B:Nat} {w:World} {g:Nat} (x:Pz B w g):Pv:=x.1.1
def me {B:Nat} {w:World} {g:Nat} (x:Pz B w g):Pd:=x.1.2
def zcf {B:Nat} {w:World} {g:Nat} (x y:Pz B w g):Int:=pe (me x) (me y)
theorem Pz.in {B:Nat} {w:World} {g:Nat} (x:Pz B w g) {W:World} (h:w.grownBy W (some g)):PdIn W (k7 x) (me x) :=
 (x.2.2 W h.size (fun b o _ hlt hne=>World.cell?_of_block (a:=⟨b,o,none⟩) (h.block b hlt hne))).1
theorem Tb (B g size:Nat) (w:World):CmpLays Tryz.prog 20 #[] (fun x:Pz B w g=>sc (k7 x)) 6 zcf g 0 size w :=
 fun m os dk _ x y=>(Eu (k7 x) (k7 y) (me x) (me y) _ (x.in (tm w g m dk os)) (y.in (tm w g m dk os)) x.2.1).mono fun _ _ ⟨he,hb,hd⟩=>⟨he,vd hb hd⟩
theorem zdi (B g:Nat) (w:World):SWO (ltOf (zcf (B:=B) (w:=w) (g:=g))) where
 irrefl x:=decide_eq_false (by show ¬ pe _ _ < 0;rw [(isCmp_D.eq _ _).2 rfl];omega)
 trans x y z h1 h2:=by
  have h1:pe (me x) (me y) < 0:=of_decide_eq_true h1
  have h2:pe (me y) (me z) < 0:=of_decide_eq_true h2
  refine decide_eq_true (?_:pe (me x) (me z) < 0)
  have h3:=isCmp_D.trans _ _ _ (Int.le_of_lt h1) (Int.le_of_lt h2)
  by_cases h0:pe (me x) (me z)=0
  ·have e:=(isCmp_D.eq _ _).1 h0
   rw [<- e] at h2
   have:=isCmp_D.neg (me x) (me y)
   omega
  ·omega
 ntrans x y z h1 h2:=by
  have h1:¬ pe (me x) (me y) < 0:=of_decide_eq_false h1
  have h2:¬ pe (me y) (me z) < 0:=of_decide_eq_false h2
  refine decide_eq_false (?_:¬ pe (me x) (me z) < 0)
  have n1:=isCmp_D.neg (me x) (me y)
  have n2:=isCmp_D.neg (me y) (me z)
  have n3:=isCmp_D.neg (me x) (me z)
  have:=isCmp_D.trans (me z) (me y) (me x) (by omega) (by omega)
  omega
def mkZ {B:Nat} {w:World} {g:Nat} (x:Pv × Pd) (hx:x.2.small/\OffP B (fun W=>PdFrom W B x.1 x.2) (some g) w):Pz B w g:=⟨x,hx⟩
/-- The list as the sort sees it. -/
theorem zam {B g n:Nat} {w:World} {us:List Pv} {ls:List Pd} (h1:ls.length=n) (h2:us.length=n) (hs:Small ls) (ho:OffP B (fun x=>∀ (j:Nat) (u:Pv) (l:Pd),us[j]? = some u->ls[j]? = some l->PdFrom x B u l) (some g) w) :
  ∃ zs:List (Pz B w g),zs.map k7=us/\zs.map me=ls:=by
 have hP:∀ x ∈ us.zip ls,x.2.small/\OffP B (fun W=>PdFrom W B x.1 x.2) (some g) w:=fun x hx=>by
  obtain ⟨j,hj⟩:=List.getElem?_of_mem hx
  obtain ⟨ha,hb⟩:=List.getElem?_zip_eq_some.1 hj
  exact ⟨hs _ (List.mem_of_getElem? hb),fun W hW hc=>ho W hW hc j _ _ ha hb⟩
 refine ⟨(us.zip ls).pmap mkZ hP, ?_, ?_⟩
 ·rw [List.map_pmap]
  show List.pmap (fun (x:Pv × Pd) _=>x.1) (us.zip ls) hP=us
  rw [List.pmap_eq_map,List.map_fst_zip (by omega)]
 ·rw [List.map_pmap]
  show List.pmap (fun (x:Pv × Pd) _=>x.2) (us.zip ls) hP=ls
  rw [List.pmap_eq_map,List.map_snd_zip (by omega)]
theorem Ch {B w0 g e k B' cap} {w:World} {q:Option Addr} {zs:List (Pz B w0 g)} {us:List Pv} (hm:zs.map k7=us):OwnK sc e k B' w q cap us ↔ OwnK (fun x:Pz B w0 g=>sc (k7 x)) e k B' w q cap zs:=by
 subst hm
 unfold OwnK
 rw [Qr k7 sc k zs.toArray]
 simp
theorem J1 (B g cap n:Nat) (ls:List Pd) (us:List Pv) (w:World) (h1:ls.length=n) (h2:us.length=n) (hs:Small ls) (hn:n<=100000000) (ho:OwnK sc 26 6 B w (some ⟨g,0,none⟩) cap us) (hof:OffP B (fun x=>∀ (j:Nat) (u:Pv) (l:Pd),us[j]? = some u->ls[j]? = some l->PdFrom x B u l) (some g) w) :
  Calls Tryz.prog 126 #[.slice (some ⟨g,0,none⟩) n cap,.func (.func 20) #[] #[]] w fun e w'=>e=.returned (.tuple #[])/\∃ ls',ls'.Perm ls/\ls'.Pairwise (fun a b=>pe a b<=0)/\GrowD B w' (some ⟨g,0,none⟩) cap n ls'/\Below B w w':=by
 have eg:∀ args w,(callFunc 20 args).run Tryz.prog w=.ok (.enter 20 args) w:=enters_of Tryz.func20 (by kernel_rfl) rfl
 obtain ⟨zs,hz1,hz2⟩:=zam (g:=g) h1 h2 hs hof
 have hZ:=(Ch hz1).1 ho
 have hlen:zs.length=n:=by rw [<- h2,<- hz1,List.length_map]
 rcases hZ.2 with ⟨e,_⟩ | ⟨g',cap',cur,hv,hB,hblk,hc,hm,hsz,ht⟩
 ·cases e
 injection hv with k1 k2 k3
 obtain rfl:g=g':=by injection k1 with k1;injection k1
 subst k3
 obtain ⟨_,_,hv',_,hg,hH,_,_⟩:=E9 (d:=zs.toArray) (enc:=fun x:Pz B w g=>sc (k7 x)) (v:=.slice (some ⟨g,0,none⟩) zs.length cap) (by intro e;cases e) (by simpa [OwnK] using hZ)
 injection hv' with h4 h5 h6
 injection h4 with h4
 injection h4 with h4
 subst h4 h6
 have hcon:=AnyQ.slices_SortFunc Tryz.sortK 6 Tryz.isAgg26 Tryz.sizeOf26 (fun x:Pz B w g=>sc (k7 x)) (fun _=>rfl) (fun x v hv=>by simp [sc] at hv;rcases hv with rfl | rfl | rfl | rfl | rfl | rfl <;> rfl) zcf (zdi B g w) 20 #[] g 0 cap zs.toArray w eg (Tb B g zs.toArray.size w) hH hg (by simp;omega)
 change Calls Tryz.prog 126 _ _ _ at hcon
 have es:zs.toArray.size=n:=by simpa using hlen
 rw [es] at hcon
 refine hcon.mono fun e w' ⟨he,d',m,os,hp,hs',hw⟩=>⟨he,d'.toList.map me, ?_, ?_, ?_⟩
 ·have:=R5 (d:=zs.toArray) (by rw [es];exact hp)
  rw [<- hz2]
  exact List.Perm.map _ (by simpa using this)
 ·have hd:d'.size=n:=hp.1.trans es
  rw [List.pairwise_map,List.pairwise_iff_getElem]
  intro i j hi hj hij
  have:=hs' i j (Nat.zero_le _) hij (by rw [<- hd];simpa using hj)
  rw [getElem!_pos _ j (by simpa using hj),getElem!_pos _ i (by simpa using hi)] at this
  have:=of_decide_eq_false this
  have h9:¬ pe (me d'[j]) (me d'[i]) < 0:=this
  have h8:=isCmp_D.neg (me d'[j]) (me d'[i])
  show pe (me d'[i]) (me d'[j])<=0
  omega
 ·have hd:d'.size=n:=hp.1.trans es
  subst hw
  have a:=Kg (n:=m) (os:=os) hg hH hp.1
  obtain ⟨cur',hb',hsz'⟩:=Lc (enc:=fun x:Pz B w g=>sc (k7 x)) (k:=6) (n:=m) (d:=d') (os:=os) hblk
  refine ⟨⟨by simp [hd],d'.toList.map k7,by simp [hd],(Ch rfl).2 (OwnK.of_holdsD hB hb' (by rw [hsz',hsz]) (by simp [hd];omega) hm (by simpa using a)),fun x hx hc j u l hu hl=>?_⟩,(J2 w g m d' os hg).mono hB⟩
  rw [List.getElem?_map] at hu hl
  obtain ⟨z,hz,rfl⟩:=Option.map_eq_some_iff.1 hu
  rw [hz] at hl
  cases hl
  exact (OffP.step z.2.2 (tm w g m d' os) (Or.inl rfl)) x hx hc
/-- slices.SortFunc of a list of predicates, by conj.Compare. -/
theorem P6 (B n c:Nat) (q:Option Addr) (ls:List Pd) (w:World) (h:GrowD B w q c n ls) (hs:Small ls) (hn:n<=100000000) :
  Calls Tryz.prog 126 #[.slice q n c,.func (.func 20) #[] #[]] w fun e w'=>e=.returned (.tuple #[])/\∃ ls',ls'.Perm ls/\ls'.Pairwise (fun a b=>pe a b<=0)/\GrowD B w' q c n ls'/\Below B w w':=by
 obtain ⟨h1,us,h2,h3,h4⟩:=h
 by_cases h0:n=0
 ·subst h0
  obtain rfl:ls=[]:=List.length_eq_zero_iff.1 h1
  have hcon:=AnyF.slices_SortFunc_none Tryz.sortK q c (.func (.func 20) #[] #[]) w
  change Calls Tryz.prog 126 _ _ _ at hcon
  exact hcon.mono fun e w' ⟨he,hw⟩=>⟨he,[],List.Perm.refl _,List.Pairwise.nil,by rw [hw];exact ⟨h1,us,h2,h3,h4⟩,by rw [hw];exact Below.refl _ _⟩
 ·obtain ⟨g,rfl⟩:∃ g,q=some ⟨g,0,none⟩:=by
   rcases h3.2 with ⟨_,e0⟩ | ⟨g,cap,cur,hv,_⟩
   ·omega
   ·injection hv with k1
    exact ⟨g,k1⟩
  exact J1 B g c n ls us w h1 h2 hs hn h3 h4
end Go.Proofs.YtimklglliffpcaaGreat

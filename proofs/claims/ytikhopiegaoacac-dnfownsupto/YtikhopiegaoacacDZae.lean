/- What is pushed: in form, pushed, the same again; its truth and its weight. -/
import Derived.Test.YtikhopiegaoacacDPushAll
import Derived.Test.YtikhopiegaoacacDEvEval
namespace Go.Proofs.Ytikhopiegaoacac
open Go.RowKit Go.Sort

theorem zero8:zeroB 0 ⟨#[]⟩ 0 0 0 0=true:=by decide +kernel
theorem chk_lit {kind:Int} {attr:ByteArray} {ints:List Int} {words:List ByteArray} {lo hi:Int} (neg:Bool) (h:predB kind attr ints words lo hi=true):chkN (litT kind attr ints words lo hi neg)=true:=by
 have h1:chkN (.mk kind attr ints words lo hi 1 [])=true:=by simp [chkN,nodeB,h,chkL]
 cases neg
 ·simpa [litT] using h1
 ·simp [litT,notT,chkN,nodeB,chkL,h,zero8]
theorem downL_mem {l:List Nd} {neg:Bool} {y:Nd} (h:y ∈ downL l neg):∃ x ∈ l,y=downN x neg:=by
 rw [downL_map] at h
 obtain ⟨x,hx,rfl⟩:=List.mem_map.1 h
 exact ⟨x,hx,rfl⟩
theorem chkL_of {l:List Nd} (h:∀ x ∈ l,chkN x=true):chkL l=true:=by
 induction l with
 | nil=>rfl
 | cons x l ih=>simp [chkL,h x (by simp),ih fun y hy=>h y (by simp [hy])]
theorem atL_of {l:List Nd} (h:∀ x ∈ l,atN x=true):atL l=true:=by
 induction l with
 | nil=>rfl
 | cons x l ih=>simp [atL,h x (by simp),ih fun y hy=>h y (by simp [hy])]
theorem op2_34 {op:Int} (h:op=3 ∨ op=4) (neg:Bool):((if neg then otherI op else op)=3 ∨ (if neg then otherI op else op)=4):=by
 rcases h with rfl | rfl <;> cases neg <;> simp [otherI]
theorem down_34 {kind lo hi op:Int} {attr:ByteArray} {ints:List Int} {words:List ByteArray} {kids:List Nd} (ho:op=3 ∨ op=4) (neg:Bool):downN (.mk kind attr ints words lo hi op kids) neg=.mk 0 ⟨#[]⟩ [] [] 0 0 (if neg then otherI op else op) (downL kids neg):=by
 have n1:¬ op=1:=by omega
 have n2:¬ op=2:=by omega
 simp only [downN,if_neg n1,if_neg n2]
theorem chk_down:∀ (t:Nd) (neg:Bool),chkN t=true→chkN (downN t neg)=true:=by
 intro t
 induction t using Nd.ind with
 | h kind attr ints words lo hi op kids ih =>
  intro neg hc
  rcases chk_parts hc with ⟨rfl,rfl,hp⟩ | ⟨rfl,⟨x,rfl,hx⟩,_⟩ | ⟨ho,h2,hl,_⟩
  ·simpa [downN] using chk_lit neg hp
  ·simpa [downN,downH] using ih x (by simp) (!neg) hx
  ·rw [down_34 ho]
   have h3:=op2_34 ho neg
   generalize (if neg=true then otherI op else op)=op2 at h3
   have hL:chkL (downL kids neg)=true:=chkL_of fun y hy=>by
    obtain ⟨x,hx,rfl⟩:=downL_mem hy
    exact ih x hx neg (chkL_all hl x hx)
   have hlen:2≤(downL kids neg).length:=by rw [downL_len];exact h2
   rcases h3 with rfl | rfl <;> simp [chkN,nodeB,zero8,hL,hlen]
theorem op_lit {kind:Int} {attr:ByteArray} {ints:List Int} {words:List ByteArray} {lo hi:Int} (neg:Bool):atN (litT kind attr ints words lo hi neg)=true:=by
 cases neg <;> simp [litT,notT,atN,atL,headPred,opN]
theorem at_down:∀ (t:Nd) (neg:Bool),chkN t=true→atN (downN t neg)=true:=by
 intro t
 induction t using Nd.ind with
 | h kind attr ints words lo hi op kids ih =>
  intro neg hc
  rcases chk_parts hc with ⟨rfl,rfl,hp⟩ | ⟨rfl,⟨x,rfl,hx⟩,_⟩ | ⟨ho,h2,hl,_⟩
  ·simpa [downN] using op_lit neg
  ·simpa [downN,downH] using ih x (by simp) (!neg) hx
  ·rw [down_34 ho]
   have h3:=op2_34 ho neg
   generalize (if neg=true then otherI op else op)=op2 at h3
   have n2:¬ op2=2:=by omega
   simp only [atN,if_neg n2]
   exact atL_of fun y hy=>by
    obtain ⟨x,hx,rfl⟩:=downL_mem hy
    exact ih x hx neg (chkL_all hl x hx)
theorem wt_down:∀ (t:Nd) (neg:Bool),chkN t=true→wtN (downN t neg)≤2 * wtN t:=by
 intro t
 induction t using Nd.ind with
 | h kind attr ints words lo hi op kids ih =>
  intro neg hc
  have e:(⟨#[]⟩:ByteArray).size=0:=rfl
  rcases chk_parts hc with ⟨rfl,rfl,hp⟩ | ⟨rfl,⟨x,rfl,hx⟩,_⟩ | ⟨ho,h2,hl,_⟩
  ·cases neg <;> simp only [downN,litT,notT,wtN,wtL,wordsWt,List.length_nil,e,if_true,if_false,Bool.false_eq_true] <;> omega
  ·have:=ih x (by simp) (!neg) hx
   simp only [downN,downH,wtN,wtL,if_true]
   rw [if_neg (by omega)]
   omega
  ·rw [down_34 ho]
   have hL:wtL (downL kids neg)≤2 * wtL kids:=by
    have hh:∀ x ∈ kids,wtN (downN x neg)≤2 * wtN x:=fun x hx=>ih x hx neg (chkL_all hl x hx)
    clear ih hl h2 hc ho
    induction kids with
    | nil=>simp [downL,wtL]
    | cons x l ih2 =>
     have h1:=hh x (by simp)
     have h3:=ih2 fun y hy=>hh y (by simp [hy])
     simp only [downL,wtL];omega
   simp only [wtN,wordsWt,List.length_nil,e]
   omega
end Go.Proofs.Ytikhopiegaoacac
namespace Go.Proofs.Ytikhopiegaoacac
open Go.RowKit Go.Sort

mutual
/-- The width, as a whole number. -/
def wN:Nd→Int
 | .mk _ _ _ _ _ _ op ks=>if op=4 then wSum ks else if op=3 then wProd ks else 1
def wSum:List Nd→Int
 | []=>0
 | x :: xs=>wN x + wSum xs
def wProd:List Nd→Int
 | []=>1
 | x :: xs=>wN x * wProd xs
end
def lsum:List Int→Int
 | []=>0
 | x :: xs=>x + lsum xs
def lprod:List Int→Int
 | []=>1
 | x :: xs=>x * lprod xs
theorem wSum_l (l:List Nd):wSum l=lsum (l.map wN):=by
 induction l with
 | nil=>rfl
 | cons x l ih=>simp [wSum,lsum,ih]
theorem wProd_l (l:List Nd):wProd l=lprod (l.map wN):=by
 induction l with
 | nil=>rfl
 | cons x l ih=>simp [wProd,lprod,ih]
theorem lsum_ge {l:List Int} (h:∀ x ∈ l,1≤x):0≤lsum l:=by
 induction l with
 | nil=>simp [lsum]
 | cons x l ih=>have:=h x (by simp);have:=ih fun y hy=>h y (by simp [hy]);simp only [lsum];omega
theorem mul_ge {a b:Int} (ha:1≤a) (hb:1≤b):a≤a * b∧b≤a * b∧1≤a * b:=by
 have h1:=Int.mul_le_mul_of_nonneg_left hb (show (0:Int)≤a by omega)
 have h2:=Int.mul_le_mul_of_nonneg_right ha (show (0:Int)≤b by omega)
 omega
theorem lprod_ge {l:List Int} (h:∀ x ∈ l,1≤x):1≤lprod l:=by
 induction l with
 | nil=>simp [lprod]
 | cons x l ih=>have h1:=h x (by simp);have h2:=ih fun y hy=>h y (by simp [hy]);simp only [lprod];exact (mul_ge h1 h2).2.2
theorem sumGo_min (M:Int):∀ (ws:List Int) (s:Int),0≤s→s≤M→(∀ x ∈ ws,1≤x)→sumGo M (ws.map (fun x=>min x (M + 1))) s=min (s + lsum ws) (M + 1):=by
 intro ws
 induction ws with
 | nil=>intro s h0 h1 _;simp only [List.map_nil,sumGo,lsum];omega
 | cons x l ih =>
  intro s h0 h1 h
  have hx:=h x (by simp)
  have hl:∀ y ∈ l,1≤y:=fun y hy=>h y (by simp [hy])
  have hg:=lsum_ge hl
  simp only [List.map_cons,sumGo,lsum]
  by_cases hc:M - s < min x (M + 1)
  ·rw [if_pos hc];omega
  ·rw [if_neg hc,ih _ (by omega) (by omega) hl];omega
theorem prodGo_min (M:Int):∀ (ws:List Int) (p:Int),1≤p→p≤M→(∀ x ∈ ws,1≤x)→prodGo M (ws.map (fun x=>min x (M + 1))) p=min (p * lprod ws) (M + 1):=by
 intro ws
 induction ws with
 | nil=>intro p h0 h1 _;simp only [List.map_nil,prodGo,lprod,Int.mul_one];omega
 | cons x l ih =>
  intro p h0 h1 h
  have hx:=h x (by simp)
  have hl:∀ y ∈ l,1≤y:=fun y hy=>h y (by simp [hy])
  have hg:=lprod_ge hl
  have hm:1≤min x (M + 1):=by omega
  simp only [List.map_cons,prodGo,lprod]
  have hM:0≤M:=by omega
  by_cases hc:M.tdiv (min x (M + 1)) < p
  ·rw [if_pos hc]
   rw [Int.tdiv_eq_ediv_of_nonneg hM,Int.ediv_lt_iff_lt_mul (by omega)] at hc
   have h2:p * min x (M + 1)≤p * x:=Int.mul_le_mul_of_nonneg_left (by omega) (by omega)
   have h3:=(mul_ge (mul_ge h0 hx).2.2 hg).1
   rw [Int.mul_assoc] at h3
   omega
  ·rw [if_neg hc]
   have hs:=prod_step hM h0 (by omega) hc
   have h4:min x (M + 1)≤p * min x (M + 1):=(mul_ge h0 hm).2.1
   have h5:min x (M + 1)=x:=by omega
   rw [h5] at hs ⊢
   rw [ih _ (by omega) (by omega) hl,Int.mul_assoc]
theorem bnd_id {m:Int} (h1:1≤m) (h2:m≤64):bnd m=m:=by unfold bnd;omega
theorem wid_min {m:Int} (h1:1≤m) (h2:m≤64):∀ t,chkN t=true→widN m t=min (wN t) (m + 1)∧1≤wN t:=by
 intro t
 induction t using Nd.ind with
 | h kind attr ints words lo hi op kids ih =>
  intro hc
  have hl:chkL kids=true:=by simp only [chkN,Bool.and_eq_true] at hc;exact hc.2
  have hall:∀ x ∈ kids,widN m x=min (wN x) (m + 1)∧1≤wN x:=fun x hx=>ih x hx (chkL_all hl x hx)
  have hmap:widL m kids=(kids.map wN).map (fun x=>min x (m + 1)):=by
   rw [widL_map,List.map_map]
   exact List.map_congr_left fun x hx=>(hall x hx).1
  have hge:∀ y ∈ kids.map wN,1≤y:=fun y hy=>by
   obtain ⟨x,hx,rfl⟩:=List.mem_map.1 hy
   exact (hall x hx).2
  simp only [widN,wN]
  by_cases h4:op=4
  ·rw [if_pos h4,if_pos h4,wSum_l,hmap]
   unfold sumB
   rw [bnd_id h1 h2,sumGo_min m _ 0 (by omega) (by omega) hge]
   refine ⟨by omega, ?_⟩
   rcases chk_parts hc with ⟨h,_⟩ | ⟨h,_⟩ | ⟨_,hk,_⟩
   ·omega
   ·omega
   ·match kids,hk with
    | x :: l,_ =>
     have hx:=hge (wN x) (by simp)
     have:=lsum_ge fun y (hy:y ∈ l.map wN)=>hge y (by simp at hy ⊢;exact Or.inr hy)
     simp only [List.map_cons,lsum];omega
  ·rw [if_neg h4,if_neg h4]
   by_cases h3:op=3
   ·rw [if_pos h3,if_pos h3,wProd_l,hmap]
    have hg:=lprod_ge hge
    refine ⟨?_,hg⟩
    have hany:((kids.map wN).map (fun x=>min x (m + 1))).any (fun x=>decide (x≤0))=false:=by
     rw [List.any_eq_false]
     intro y hy
     obtain ⟨z,hz,rfl⟩:=List.mem_map.1 hy
     have:=hge z hz
     simp;omega
    unfold prodB
    rw [hany,bnd_id h1 h2,prodGo_min m _ 1 (by omega) h1 hge]
    simp
   ·rw [if_neg h3,if_neg h3];omega
end Go.Proofs.Ytikhopiegaoacac

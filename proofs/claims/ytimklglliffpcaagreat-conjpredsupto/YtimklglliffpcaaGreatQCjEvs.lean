/- A list of events in memory. -/
import Derived.Test.YtimklglliffpcaaGreatQZae
namespace Go.Proofs.YtimklglliffpcaaGreat
open Go.RowKit Go.Sort
/-- A list of events in memory. -/
def EvsOf (w:World) (q:Option Addr) (c:Nat) (evs:List (List Pr)):Prop:=∃ us:List (Option Addr × Nat × Nat),SlOf Z8 1 w q c us/\us.length=evs.length/\∀ (j:Nat) (u:Option Addr × Nat × Nat) (ev:List Pr),us[j]? = some u->evs[j]? = some ev->u.2.1=ev.length/\SlOf yq 4 w u.1 u.2.2 ev
theorem EvsOf.below {w w':World} {q:Option Addr} {c:Nat} {evs:List (List Pr)} (h:EvsOf w q c evs) (hb:Below w.heap.size w w'):EvsOf w' q c evs:=by
 obtain ⟨us,h1,h2,h3⟩:=h
 exact ⟨us,h1.below hb,h2,fun j u ev hj he=>⟨(h3 j u ev hj he).1,(h3 j u ev hj he).2.below hb⟩⟩
theorem EvsOf.at {w:World} {q:Option Addr} {c:Nat} {evs:List (List Pr)} {j:Nat} {ev:List Pr} (h:EvsOf w q c evs) (hj:evs[j]? = some ev) :
  ∃ b off q1 c1,q=some ⟨b,off,none⟩/\b < w.heap.size/\SlOf yq 4 w q1 c1 ev/\w.cell? ⟨b,off + j,none⟩=some (.slice q1 ev.length c1):=by
 obtain ⟨us,h1,h2,h3⟩:=h
 have hl:j < evs.length:=(List.getElem?_eq_some_iff.1 hj).1
 obtain ⟨u,hu,_⟩:=je (l:=us) (k:=j) (by omega)
 obtain ⟨b,off,hq,hb,hc⟩:=h1.2.2.2.at hu
 obtain ⟨e1,e2⟩:=h3 j u ev hu hj
 have h0:=hc 0 (by omega)
 rw [Nat.mul_one,Nat.add_zero] at h0
 refine ⟨b,off,u.1,u.2.2,hq,hb,e2, ?_⟩
 rw [<- e1];exact h0
end Go.Proofs.YtimklglliffpcaaGreat

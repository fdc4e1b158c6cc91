/- The law ParsePlays returns true, whatever the text. -/
import Derived.Test.YtencibjmiphinaaGreatDoorQZay
import Derived.Test.YtencibjmiphinaaGreatDoorQZbd
namespace Go.Proofs.YtencibjmiphinaaGreatDoor
open Go.RowKit Go.Sort

def zNv : Nv := ⟨0, ⟨#[]⟩, none, 0, 0, none, 0, 0, 0, 0, 0, none, 0, 0⟩
theorem zIn (w : World) : NdIn w zNv zeroT := NdIn.make (ints := []) (words := []) (kids := []) (SlOf.none _) (SlOf.none _) ⟨[], SlOf.none _, rfl, fun j v x h => by simp at h⟩
theorem zOk : OkN zeroT := .mk (by simp) (by simp) (by simp) (fun x h => by cases h)
theorem G_on {w w' : World} (h : Lx.G w) (hb : RowKit.Below w.heap.size w w') : Lx.G w' := Lx.G_below h hb
/-- Parse, told by one node: what it answers and its tree. -/
def PrN (w : World) (x : Rs Nd) (e : Ending) (w' : World) (v : Nv) (t : Nd) (p c : Int) : Prop := e = .returned (.tuple #[v.val, .int .i64 p, .int .i64 c]) ∧ NdIn w' v t ∧ RowKit.Below w.heap.size w w' ∧ (match x with
  | .bad q => p = q ∧ c = 10 ∧ t = zeroT
  | .ok y _ => p = 0 ∧ c = 0 ∧ t = y)
theorem PrR.one {w w' : World} {x : Rs Nd} {e : Ending} (h : PrR w x e w') : ∃ v t p c, PrN w x e w' v t p c := by
  cases x with
  | bad q => exact ⟨zNv, zeroT, q, 10, h.1, zIn _, h.2, rfl, rfl, rfl⟩
  | ok y r =>
    obtain ⟨⟨v, he, hv⟩, hb⟩ := h
    exact ⟨v, y, 0, 0, he, hv.toIn, hb, rfl, rfl, rfl⟩
/-- The node, place and error, read off what Parse answers. -/
def prT : Rs Nd → Nd
  | .bad _ => zeroT
  | .ok y _ => y
def prP : Rs Nd → Int
  | .bad q => q
  | .ok _ _ => 0
def prC : Rs Nd → Int
  | .bad _ => 10
  | .ok _ _ => 0
theorem PrR.said {w w' : World} {x : Rs Nd} {e : Ending} (h : PrR w x e w') : ∃ v, e = .returned (.tuple #[v.val, .int .i64 (prP x), .int .i64 (prC x)]) ∧ NdIn w' v (prT x) ∧ RowKit.Below w.heap.size w w' := by
  cases x with
  | bad q => exact ⟨zNv, h.1, zIn _, h.2⟩
  | ok y r =>
    obtain ⟨⟨v, he, hv⟩, hb⟩ := h
    exact ⟨v, he, hv.toIn, hb⟩
theorem prT_ok (s : ByteArray) : OkN (prT (parL s)) := by
  cases h : parL s with
  | bad q => exact zOk
  | ok y r => exact OkN.of_wt _ (parL_wt h)
theorem al_bel (w : World) (o : Obj) : RowKit.Below w.heap.size w (w.alloc o) := (RowKit.Below.refl _ _).alloc (Nat.le_refl _) o
set_option maxHeartbeats 4000000 in
theorem parsePlays_any (s : ByteArray) (w : World) (hG : Lx.G w) :
    Calls Tryz.prog 3 #[.string s] w fun e w' => e = .returned (.bool true) ∧ RowKit.Below w.heap.size w w' := by
  have hfx := fixed_any5 w hG
  have HG := hide hG
  obtain ⟨x, hx⟩ : ∃ x, parL s = x := ⟨_, rfl⟩
  have HOK := hide (show OkN (prT x) by rw [← hx]; exact prT_ok s)
  have HX := hide hx
  obtain ⟨p, hp⟩ : ∃ p, prP x = p := ⟨_, rfl⟩
  obtain ⟨c, hc⟩ : ∃ c, prC x = c := ⟨_, rfl⟩
  have HP := hide hp
  have HC := hide hc
  clear hG hx hp hc
  go_enter Tryz.func3, Tryz.ntmps3
  go_wp2_with first
    | (go_at_call 9; refine hfx.mono ?_; rintro e w1 ⟨rfl, hb⟩; have B1 := hide hb; clear hb)
    | (go_at_call 10; refine (parse_any s _ (G_on (unhide HG) (unhide B1))).mono ?_; intro e w2 h; rw [unhide HX] at h; obtain ⟨v, rfl, hv, hb⟩ := h.said; rw [unhide HP, unhide HC]; have B2 := hide (below_sub (below_sub (unhide B1) hb) (al_bel w2 (.cells #[.int .i64 v.kind, .string v.attr, .slice v.qi v.ni v.ci, .slice v.qw v.nw v.cw, .int .i64 v.lo, .int .i64 v.hi, .int .i64 v.op, .slice v.qk v.nk v.ck] 29))); have V2 := hide (hv.keep (al_bel w2 (.cells #[.int .i64 v.kind, .string v.attr, .slice v.qi v.ni v.ci, .slice v.qw v.nw v.cw, .int .i64 v.lo, .int .i64 v.hi, .int .i64 v.op, .slice v.qk v.nk v.ck] 29))); have X2 := hide (box_nw w2 (.cells #[.int .i64 v.kind, .string v.attr, .slice v.qi v.ni v.ci, .slice v.qw v.nw v.cw, .int .i64 v.lo, .int .i64 v.hi, .int .i64 v.op, .slice v.qk v.nk v.ck] 29)); clear h hv hb; unfold Nv.val)
    | (go_at_call 11; refine (refParse_any s _).mono ?_; intro e w3 h; rw [unhide HX] at h; obtain ⟨u, rfl, hu, hb⟩ := h.said; rw [unhide HP, unhide HC]; have hb4 := below_sub hb (al_bel w3 (.cells #[.int .i64 u.kind, .string u.attr, .slice u.qi u.ni u.ci, .slice u.qw u.nw u.cw, .int .i64 u.lo, .int .i64 u.hi, .int .i64 u.op, .slice u.qk u.nk u.ck] 29)); have V4 := hide ((unhide V2).keep hb4); have U4 := hide (hu.keep (al_bel w3 (.cells #[.int .i64 u.kind, .string u.attr, .slice u.qi u.ni u.ci, .slice u.qw u.nw u.cw, .int .i64 u.lo, .int .i64 u.hi, .int .i64 u.op, .slice u.qk u.nk u.ck] 29))); have B4 := hide (below_sub (unhide B2) hb4); obtain ⟨k0, k1, k2, k3, k4, k5, k6, k7⟩ := of8' (bl_on (unhide X2) hb4); obtain ⟨m0, m1, m2, m3, m4, m5, m6, m7⟩ := of8' (box_nw w3 (.cells #[.int .i64 u.kind, .string u.attr, .slice u.qi u.ni u.ci, .slice u.qw u.nw u.cw, .int .i64 u.lo, .int .i64 u.hi, .int .i64 u.op, .slice u.qk u.nk u.ck] 29)); clear h hu hb hb4; unfold Nv.val)
    | (go_at_call 12; have hsm := sameM_all _ _ v u _ (unhide V4) (unhide U4) (unhide HOK); rw [sameT_yes rfl] at hsm; unfold Nv.val at hsm; refine hsm.mono ?_; rintro e w5 ⟨rfl, hb⟩; have B5 := hide (below_sub (unhide B4) hb); clear hb hsm)
  go_ret
  exact ⟨rfl, unhide B5⟩
end Go.Proofs.YtencibjmiphinaaGreatDoor

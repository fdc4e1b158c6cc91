/- What schema.Name and the reference's Name return, for every text: the same. -/
import Derived.Test.YtikhopiegaoacacDZaa
namespace Go.Proofs.Ytikhopiegaoacac
open Go.RowKit

def isLet (c:Int):Bool:=decide (97≤c) && decide (c≤122)
def isDig (c:Int):Bool:=decide (48≤c) && decide (c≤57)
def okB (c:Int):Bool:=isLet c || isDig c || c == 95
def byteI (s:ByteArray) (i:Nat):Int:=if h:i < s.size then (s[i].toNat:Int) else 0
theorem byteI_lt {s:ByteArray} {i:Nat} (h:i < s.size):byteI s i=(s[i].toNat:Int):=by unfold byteI;rw [dif_pos h]
/-- Is it a name? -/
def nameOk (s:ByteArray):Bool:=decide (1≤s.size) && decide (s.size≤32) && isLet (byteI s 0) && (List.range s.size).all fun i=>okB (byteI s i)
theorem name_no0 {s:ByteArray} (h:s.size < 1):nameOk s=false:=by unfold nameOk;simp;omega
theorem name_no32 {s:ByteArray} (h:32 < s.size):nameOk s=false:=by unfold nameOk;simp;omega
theorem name_noL {s:ByteArray} (h:isLet (byteI s 0)=false):nameOk s=false:=by unfold nameOk;simp [h]
theorem name_noB {s:ByteArray} {i:Nat} (hi:i < s.size) (h:okB (byteI s i)=false):nameOk s=false:=by
  unfold nameOk
  rw [Bool.and_eq_false_iff]
  right
  rw [Bool.eq_false_iff]
  intro hall
  rw [List.all_eq_true] at hall
  have:=hall i (by simpa using hi)
  rw [h] at this;cases this
theorem name_yes {s:ByteArray} (h1:1≤s.size) (h2:s.size≤32) (h3:isLet (byteI s 0)=true) (h:∀ j,j < s.size→okB (byteI s j)=true):nameOk s=true:=by
  unfold nameOk
  rw [h3]
  simp only [Bool.and_eq_true,decide_eq_true_eq,List.all_eq_true,List.mem_range]
  exact ⟨⟨⟨h1,h2⟩,trivial⟩,h⟩

set_option maxHeartbeats 400000 in
theorem schLet_any (c:Int) (w:World) :
    Calls Try.prog 76 #[.int .u8 c] w fun e w'=>e=.returned (.bool (isLet c))∧w'=w:=by
  by_cases h1:97≤c <;> by_cases h2:c≤122
  all_goals
    go_enter Try.func76,Try.ntmps76
    go_wp2
    go_ret
    exact ⟨ret_bool (by simp [isLet,h1,h2]),rfl⟩
set_option maxHeartbeats 400000 in
theorem schDig_any (c:Int) (w:World) :
    Calls Try.prog 77 #[.int .u8 c] w fun e w'=>e=.returned (.bool (isDig c))∧w'=w:=by
  by_cases h1:48≤c <;> by_cases h2:c≤57
  all_goals
    go_enter Try.func77,Try.ntmps77
    go_wp2
    go_ret
    exact ⟨ret_bool (by simp [isDig,h1,h2]),rfl⟩

set_option maxHeartbeats 1000000 in
theorem name_any (s:ByteArray) (w:World) :
    Calls Try.prog 66 #[.string s] w fun e w'=>e=.returned (.bool (nameOk s))∧w'=w:=by
  by_cases h1:s.size < 1
  · have hn:=hide (name_no0 h1)
    have i1:(s.size:Int) < 1:=by omega
    go_enter Try.func66,Try.ntmps66
    go_wp2
    go_ret
    exact ⟨ret_bool (uh hn).symm,rfl⟩
  · by_cases h2:32 < s.size
    · have hn:=hide (name_no32 h2)
      have i1:¬ (s.size:Int) < 1:=by omega
      have i2:(32:Int) < (s.size:Int):=by omega
      go_enter Try.func66,Try.ntmps66
      go_wp2
      go_ret
      exact ⟨ret_bool (uh hn).symm,rfl⟩
    · have i1:¬ (s.size:Int) < 1:=by omega
      have i2:¬ (32:Int) < (s.size:Int):=by omega
      have hb0:=byteI_lt (s:=s) (i:=0) (by omega)
      have hlt:=fun (c:Int) (W:World)=>schLet_any c W
      have hdg:=fun (c:Int) (W:World)=>schDig_any c W
      cases hl:isLet (byteI s 0) with
      | false =>
        have hn:=hide (name_noL hl)
        rw [hb0] at hl
        clear hb0
        have i0:(0:Int) < (s.size:Int):=by omega
        go_enter Try.func66,Try.ntmps66
        go_wp2_with (first | (go_at_call 76;refine (hlt _ _).mono ?_;rintro e w' ⟨rfl,rfl⟩))
        go_ret
        exact ⟨ret_bool (uh hn).symm,rfl⟩
      | true =>
        have Hl:=hide hl
        rw [hb0] at hl
        clear hb0
        have i0:(0:Int) < (s.size:Int):=by omega
        go_enter Try.func66,Try.ntmps66
        go_wp2_with (first | (go_at_call 76;refine (hlt _ _).mono ?_;rintro e w' ⟨rfl,rfl⟩))
        go_loop [20] (fun i=>∃ k:Nat,k≤s.size∧i=.int .i64 k∧∀ j,j < k→okB (byteI s j)=true) (fun i=>s.size - (intOf i).toNat)
        case atStart=>exact ⟨0,by omega,rfl,fun j hj=>by omega⟩
        case round =>
          obtain ⟨k,hk,rfl,hz⟩:=hrel
          have Hz:=hide hz
          clear hz
          by_cases hkl:k < s.size
          · have ki0:(0:Int)≤(k:Int):=by omega
            have ki1:(k:Int) < (s.size:Int):=by omega
            have hbk:=byteI_lt hkl
            cases hok:okB (byteI s k) with
            | true =>
              have Hok:=hide hok
              rw [hbk] at hok
              have hparts:(isLet (s[k].toNat:Int)=true) ∨ (isLet (s[k].toNat:Int)=false∧isDig (s[k].toNat:Int)=true) ∨ (isLet (s[k].toNat:Int)=false∧isDig (s[k].toNat:Int)=false∧((s[k].toNat:Int) != 95)=false):=by
                revert hok;unfold okB
                cases isLet (s[k].toNat:Int) <;> cases isDig (s[k].toNat:Int) <;> simp
              clear hok hbk
              rcases hparts with p1 | ⟨p1,p2⟩ | ⟨p1,p2,p3⟩
              all_goals
                go_wp2_with (first | (go_at_call 76;refine (hlt _ _).mono ?_;rintro e w' ⟨rfl,rfl⟩) | (go_at_call 77;refine (hdg _ _).mono ?_;rintro e w' ⟨rfl,rfl⟩))
                go_round
                case rel=>exact ⟨k + 1,by omega,by go_num,fun j hj=>by
                  by_cases e:j=k
                  · rw [e];exact uh Hok
                  · exact uh Hz j (by omega)⟩
                case measure=>simp [intOf];omega
            | false =>
              have hn:=hide (name_noB hkl hok)
              rw [hbk] at hok
              have hparts:isLet (s[k].toNat:Int)=false∧isDig (s[k].toNat:Int)=false∧((s[k].toNat:Int) != 95)=true:=by
                revert hok;unfold okB
                cases isLet (s[k].toNat:Int) <;> cases isDig (s[k].toNat:Int) <;> simp
              obtain ⟨p1,p2,p3⟩:=hparts
              clear hok hbk
              go_wp2_with (first | (go_at_call 76;refine (hlt _ _).mono ?_;rintro e w' ⟨rfl,rfl⟩) | (go_at_call 77;refine (hdg _ _).mono ?_;rintro e w' ⟨rfl,rfl⟩))
              go_ret
              exact ⟨ret_bool (uh hn).symm,rfl⟩
          · obtain rfl:k=s.size:=by omega
            go_wp2
            go_ret
            exact ⟨ret_bool (name_yes (by omega) (by omega) (uh Hl) (uh Hz)).symm,rfl⟩

end Go.Proofs.Ytikhopiegaoacac

/- Lists held against each other; ops held against each other. -/
import Derived.Test.YtdgoibnndfibnaaGreatDoorWZaj
namespace Go.Proofs.YtdgoibnndfibnaaGreatDoor
open Go.RowKit Go.Sort
theorem ba_ext {s t:ByteArray} (h:s.toList=t.toList):s=t:=by
 rw [ByteArray.toList_eq,ByteArray.toList_eq] at h
 cases s;cases t
 simp only at h
 rw [Array.toList_inj.1 h]
theorem take_snoc_of {α:Type} {l:List α} {k:Nat} {x:α} (h:l[k]? = some x):l.take (k + 1)=l.take k ++ [x]:=by
 rw [List.take_add_one,h];rfl
theorem pre_snoc {α:Type} {l m:List α} {k:Nat} {x:α} (h:l.take k=m.take k) (hx:l[k]? = some x) (hy:m[k]? = some x):l.take (k + 1)=m.take (k + 1):=by
 rw [take_snoc_of hx,take_snoc_of hy,h]
theorem pre_ne {α:Type} {l m:List α} {k:Nat} {x y:α} (hx:l[k]? = some x) (hy:m[k]? = some y) (h:x ≠ y):l ≠ m:=fun e=>by subst e;rw [hx] at hy;cases hy;exact h rfl
theorem attrsAt {w:World} {q:Option Addr} {c:Nat} {l:List (ByteArray × Int)} {j:Nat} {x:ByteArray × Int} (h:SlOf encAt 2 w q c l) (hj:l[j]? = some x):∃ b off,q=some ⟨b,off,none⟩/\b < w.heap.size/\w.cell? ⟨b,off + j * 2,none⟩=some (.string x.1)/\w.cell? ⟨b,off + j * 2 + 1,none⟩=some (.int .i64 x.2):=by
 obtain ⟨b,off,hq,hb,hc⟩:=h.2.2.2.at hj
 exact ⟨b,off,hq,hb,hc 0 (by omega),hc 1 (by omega)⟩
set_option maxRecDepth 100000 in
theorem neqQ (x y:Pq) (w:World):(binOp .neq 78 (.agg #[.string x.1,.int .i64 x.2.1,.int .i64 x.2.2.1,.string x.2.2.2]) (.agg #[.string y.1,.int .i64 y.2.1,.int .i64 y.2.2.1,.string y.2.2.2])).run Tryz.prog w=.ok (.bool (!decide (x=y))) w:=by
 have u3:=Tryz.underlying3
 have a3:=Tryz.isAgg3
 have z3:=Tryz.sizeOf3
 have u9:=Tryz.underlying9
 have a9:=Tryz.isAgg9
 have z9:=Tryz.sizeOf9
 have a76:=Tryz.isAgg76
 have z76:=Tryz.sizeOf76
 have hS:Tryz.prog.underlying 78=some (.struct (Tryz.prog.fieldsOf 78)):=by kernel_rfl
 have hp:Tryz.prog.stoodInHeld 78=false:=by kernel_rfl
 have h76:(Op.equalIn 9999 76 (.agg #[.int .i64 x.2.1,.int .i64 x.2.2.1,.string x.2.2.2]) (.agg #[.int .i64 y.2.1,.int .i64 y.2.2.1,.string y.2.2.2])).run Tryz.prog w=.ok (decide (x.2.1=y.2.1/\x.2.2.1=y.2.2.1/\x.2.2.2.toList=y.2.2.2.toList)) w:=by
  clear hS hp
  have hS76:Tryz.prog.underlying 76=some (.struct (Tryz.prog.fieldsOf 76)):=by kernel_rfl
  have hp76:Tryz.prog.stoodInHeld 76=false:=by kernel_rfl
  rw [show (9999:Nat)=9998 + 1 from rfl,run_equalIn_agg w 9998 76 _ _ hS76 hp76]
  simp only [Program.fieldsOf,Tryz.underlying76]
  go_simp
  by_cases h1:x.2.1=y.2.1 <;> by_cases h2:x.2.2.1=y.2.2.1 <;> by_cases h3:x.2.2.2.toList=y.2.2.2.toList <;> simp [h1,h2,h3]
 rw [run_neq_struct,show (10000:Nat)=9999 + 1 from rfl,run_equalIn_agg w 9999 78 _ _ hS hp]
 simp only [Program.fieldsOf,Tryz.underlying78]
 go_simp
 obtain ⟨a,k,n,s⟩:=x
 obtain ⟨a',k',n',s'⟩:=y
 have hd:(((a,k,n,s):Pq)=(a',k',n',s')) ↔ (a.toList=a'.toList/\k=k'/\n=n'/\s.toList=s'.toList):=⟨fun h=>by injection h with h0 h;injection h with h1 h;injection h with h2 h3;exact ⟨by rw [h0],h1,h2,by rw [h3]⟩,fun ⟨h0,h1,h2,h3⟩=>by rw [ba_ext h0,h1,h2,ba_ext h3]⟩
 rw [show decide (((a,k,n,s):Pq)=(a',k',n',s'))=decide (a.toList=a'.toList/\k=k'/\n=n'/\s.toList=s'.toList) from decide_eq_decide.2 hd]
 by_cases h0:a.toList=a'.toList <;> by_cases h1:k=k' <;> by_cases h2:n=n' <;> by_cases h3:s.toList=s'.toList <;> simp [h0,h1,h2,h3]
theorem neqA (x y:ByteArray × Int) (w:World):(binOp .neq 62 (.agg #[.string x.1,.int .i64 x.2]) (.agg #[.string y.1,.int .i64 y.2])).run Tryz.prog w=.ok (.bool (!decide (x=y))) w:=by
 have u3:=Tryz.underlying3
 have a3:=Tryz.isAgg3
 have z3:=Tryz.sizeOf3
 have u9:=Tryz.underlying9
 have a9:=Tryz.isAgg9
 have z9:=Tryz.sizeOf9
 have hS:Tryz.prog.underlying 62=some (.struct (Tryz.prog.fieldsOf 62)):=by kernel_rfl
 have hp:Tryz.prog.stoodInHeld 62=false:=by kernel_rfl
 rw [run_neq_struct,show (10000:Nat)=9999 + 1 from rfl,run_equalIn_agg w 9999 62 _ _ hS hp]
 simp only [Program.fieldsOf,Tryz.underlying62]
 go_simp
 obtain ⟨a,k⟩:=x
 obtain ⟨a',k'⟩:=y
 have hd:(((a,k):ByteArray × Int)=(a',k')) ↔ (a.toList=a'.toList/\k=k'):=⟨fun h=>by injection h with h0 h1;exact ⟨by rw [h0],h1⟩,fun ⟨h0,h1⟩=>by rw [ba_ext h0,h1]⟩
 rw [show decide (((a,k):ByteArray × Int)=(a',k'))=decide (a.toList=a'.toList/\k=k') from decide_eq_decide.2 hd]
 by_cases h0:a.toList=a'.toList <;> by_cases h1:k=k' <;> simp [h0,h1]
set_option maxHeartbeats 2000000 in
set_option maxRecDepth 100000 in
theorem equalI (q:Option Addr) (c:Nat) (l:List Int) (q':Option Addr) (c':Nat) (m:List Int) (w:World) (h:SlOf encI 1 w q c l) (h':SlOf encI 1 w q' c' m) (hl:l.length<=140737488355328) :
  Calls Tryz.prog 78 #[.slice q l.length c,.slice q' m.length c'] w fun e w'=>e=.returned (.bool (decide (l=m)))/\Below w.heap.size w w':=by
 by_cases hlen:l.length=m.length
 ·have hli:((m.length:Int) != (m.length:Int))=false:=by simp
  have a0:(m.length:Int)<=140737488355328:=by omega
  obtain ⟨R,hR⟩:∃ R,decide (l=m)=R:=⟨_,rfl⟩
  rw [hR]
  have HR:=hide hR
  have mixed:Tryz.prog.follows .mixedOrders=true:=by kernel_rfl
  have HLn:=hide hlen
  clear hR
  rw [hlen]
  clear hl hlen
  go_enter Tryz.func78,Tryz.ntmps78
  go_wp2
  go_loopw [13] (fun i wr=>∃ k:Nat,k<=m.length/\i=.int .i64 (k:Int)/\Hid (l.take k=m.take k)/\Hid (Below w.heap.size w wr)) (fun i _=>m.length - (intOf i).toNat)
  case atStart=>exact ⟨0,Nat.zero_le _,rfl,hide rfl,hide (Below.refl _ _)⟩
  case round =>
   obtain ⟨k,hk,rfl,HT,HB⟩:=hrel
   by_cases hlt:k < m.length
   ·obtain ⟨y,hy,_⟩:=get_at hlt
    obtain ⟨x,hx,_⟩:=get_at (show k < l.length by have:=uh HLn;omega)
    obtain ⟨b,off,hq,hb,c0⟩:=intsAt (h.below (uh HB)) hx
    obtain ⟨b',off',hq',hb',d0⟩:=intsAt (h'.below (uh HB)) hy
    subst hq hq'
    have p0:=cell_regrown c0
    have s0:=cell_regrown d0
    have ki0:(0:Int)<=(k:Int):=by omega
    have ki1:(k:Int) < (m.length:Int):=by omega
    by_cases hxy:x=y
    ·have HT2:=hide (show l.take (k + 1)=m.take (k + 1) from pre_snoc (uh HT) hx (by rw [hy,hxy]))
     have hne:(x != y)=false:=by simp [hxy]
     clear h h' hx hy hxy
     go_wp2
     refine wp_region_quiet_below (by assumption) (by kernel_rfl) ?_
     repeat (go_big_quiet_step (fail))
     refine wpQuiet_nil ?_
     intro _ hw'
     obtain ⟨⟨dq,osq⟩,hw''⟩:=hw'
     subst hw''
     go_wp2
     go_roundw
     case rel=>exact ⟨k + 1,by omega,by go_num,HT2,hide ((uh HB).trans ((below_regrown _ _ _).mono (uh HB).size))⟩
     case measure=>simp [intOf];omega
    ·have HN:=hide (show R=false by rw [<- uh HR];exact decide_eq_false (pre_ne hx hy hxy))
     have hne:(x != y)=true:=by simpa using hxy
     clear h h' hx hy hxy
     go_wp2
     refine wp_region_quiet_below (by assumption) (by kernel_rfl) ?_
     repeat (go_big_quiet_step (fail))
     refine wpQuiet_nil ?_
     intro _ hw'
     obtain ⟨⟨dq,osq⟩,hw''⟩:=hw'
     subst hw''
     go_wp2
     go_ret
     exact ⟨ret_bool (uh HN).symm,(uh HB).trans ((below_regrown _ _ _).mono (uh HB).size)⟩
   ·obtain rfl:k=m.length:=by omega
    have ki1:¬ (m.length:Int) < (m.length:Int):=by omega
    clear h h'
    go_wp2
    go_ret
    refine ⟨ret_bool ?_,uh HB⟩
    rw [<- uh HR]
    symm
    refine decide_eq_true ?_
    have h1:=uh HT
    rw [List.take_length,<- uh HLn,List.take_length] at h1
    exact h1
 ·have hli:((l.length:Int) != (m.length:Int))=true:=by simp;omega
  rw [decide_eq_false (fun e=>hlen (by rw [e]))]
  clear h h'
  go_enter Tryz.func78,Tryz.ntmps78
  go_wp2
  go_ret
  exact ⟨rfl,Below.refl _ _⟩
set_option maxHeartbeats 2000000 in
set_option maxRecDepth 100000 in
theorem equalQ (q:Option Addr) (c:Nat) (l:List Pq) (q':Option Addr) (c':Nat) (m:List Pq) (w:World) (h:SlOf encQ 4 w q c l) (h':SlOf encQ 4 w q' c' m) (hl:l.length<=140737488355328) :
  Calls Tryz.prog 106 #[.slice q l.length c,.slice q' m.length c'] w fun e w'=>e=.returned (.bool (decide (l=m)))/\Below w.heap.size w w':=by
 by_cases hlen:l.length=m.length
 ·have hli:((m.length:Int) != (m.length:Int))=false:=by simp
  have a0:(m.length:Int)<=140737488355328:=by omega
  obtain ⟨R,hR⟩:∃ R,decide (l=m)=R:=⟨_,rfl⟩
  rw [hR]
  have HR:=hide hR
  have mixed:Tryz.prog.follows .mixedOrders=true:=by kernel_rfl
  have HLn:=hide hlen
  clear hR
  rw [hlen]
  clear hl hlen
  go_enter Tryz.func106,Tryz.ntmps106
  go_wp2
  go_loopw [13] (fun i wr=>∃ k:Nat,k<=m.length/\i=.int .i64 (k:Int)/\Hid (l.take k=m.take k)/\Hid (Below w.heap.size w wr)) (fun i _=>m.length - (intOf i).toNat)
  case atStart=>exact ⟨0,Nat.zero_le _,rfl,hide rfl,hide (Below.refl _ _)⟩
  case round =>
   obtain ⟨k,hk,rfl,HT,HB⟩:=hrel
   by_cases hlt:k < m.length
   ·obtain ⟨y,hy,_⟩:=get_at hlt
    obtain ⟨x,hx,_⟩:=get_at (show k < l.length by have:=uh HLn;omega)
    obtain ⟨b,off,hq,hb,c0,c1,c2,c3⟩:=pairsAt (h.below (uh HB)) hx
    obtain ⟨b',off',hq',hb',d0,d1,d2,d3⟩:=pairsAt (h'.below (uh HB)) hy
    subst hq hq'
    have p0:=cell_regrown c0
    have s0:=cell_regrown d0
    have p1:=cell_regrown c1
    have s1:=cell_regrown d1
    have p2:=cell_regrown c2
    have s2:=cell_regrown d2
    have p3:=cell_regrown c3
    have s3:=cell_regrown d3
    have hne:=neqQ x y
    have ki0:(0:Int)<=(k:Int):=by omega
    have ki1:(k:Int) < (m.length:Int):=by omega
    by_cases hxy:x=y
    ·have HT2:=hide (show l.take (k + 1)=m.take (k + 1) from pre_snoc (uh HT) hx (by rw [hy,hxy]))
     rw [decide_eq_true hxy] at hne
     clear h h' hx hy hxy
     go_wp2
     refine wp_region_quiet_below (by assumption) (by kernel_rfl) ?_
     repeat (go_big_quiet_step (fail))
     refine wpQuiet_nil ?_
     intro _ hw'
     obtain ⟨⟨dq,osq⟩,hw''⟩:=hw'
     subst hw''
     go_wp2
     go_roundw
     case rel=>exact ⟨k + 1,by omega,by go_num,HT2,hide ((uh HB).trans ((below_regrown _ _ _).mono (uh HB).size))⟩
     case measure=>simp [intOf];omega
    ·have HN:=hide (show R=false by rw [<- uh HR];exact decide_eq_false (pre_ne hx hy hxy))
     rw [decide_eq_false hxy] at hne
     clear h h' hx hy hxy
     go_wp2
     refine wp_region_quiet_below (by assumption) (by kernel_rfl) ?_
     repeat (go_big_quiet_step (fail))
     refine wpQuiet_nil ?_
     intro _ hw'
     obtain ⟨⟨dq,osq⟩,hw''⟩:=hw'
     subst hw''
     go_wp2
     go_ret
     exact ⟨ret_bool (uh HN).symm,(uh HB).trans ((below_regrown _ _ _).mono (uh HB).size)⟩
   ·obtain rfl:k=m.length:=by omega
    have ki1:¬ (m.length:Int) < (m.length:Int):=by omega
    clear h h'
    go_wp2
    go_ret
    refine ⟨ret_bool ?_,uh HB⟩
    rw [<- uh HR]
    symm
    refine decide_eq_true ?_
    have h1:=uh HT
    rw [List.take_length,<- uh HLn,List.take_length] at h1
    exact h1
 ·have hli:((l.length:Int) != (m.length:Int))=true:=by simp;omega
  rw [decide_eq_false (fun e=>hlen (by rw [e]))]
  clear h h'
  go_enter Tryz.func106,Tryz.ntmps106
  go_wp2
  go_ret
  exact ⟨rfl,Below.refl _ _⟩
set_option maxHeartbeats 2000000 in
set_option maxRecDepth 100000 in
theorem equalA (q:Option Addr) (c:Nat) (l:List (ByteArray × Int)) (q':Option Addr) (c':Nat) (m:List (ByteArray × Int)) (w:World) (h:SlOf encAt 2 w q c l) (h':SlOf encAt 2 w q' c' m) (hl:l.length<=140737488355328) :
  Calls Tryz.prog 48 #[.slice q l.length c,.slice q' m.length c'] w fun e w'=>e=.returned (.bool (decide (l=m)))/\Below w.heap.size w w':=by
 by_cases hlen:l.length=m.length
 ·have hli:((m.length:Int) != (m.length:Int))=false:=by simp
  have a0:(m.length:Int)<=140737488355328:=by omega
  obtain ⟨R,hR⟩:∃ R,decide (l=m)=R:=⟨_,rfl⟩
  rw [hR]
  have HR:=hide hR
  have mixed:Tryz.prog.follows .mixedOrders=true:=by kernel_rfl
  have HLn:=hide hlen
  clear hR
  rw [hlen]
  clear hl hlen
  go_enter Tryz.func48,Tryz.ntmps48
  go_wp2
  go_loopw [13] (fun i wr=>∃ k:Nat,k<=m.length/\i=.int .i64 (k:Int)/\Hid (l.take k=m.take k)/\Hid (Below w.heap.size w wr)) (fun i _=>m.length - (intOf i).toNat)
  case atStart=>exact ⟨0,Nat.zero_le _,rfl,hide rfl,hide (Below.refl _ _)⟩
  case round =>
   obtain ⟨k,hk,rfl,HT,HB⟩:=hrel
   by_cases hlt:k < m.length
   ·obtain ⟨y,hy,_⟩:=get_at hlt
    obtain ⟨x,hx,_⟩:=get_at (show k < l.length by have:=uh HLn;omega)
    obtain ⟨b,off,hq,hb,c0,c1⟩:=attrsAt (h.below (uh HB)) hx
    obtain ⟨b',off',hq',hb',d0,d1⟩:=attrsAt (h'.below (uh HB)) hy
    subst hq hq'
    have p0:=cell_regrown c0
    have s0:=cell_regrown d0
    have p1:=cell_regrown c1
    have s1:=cell_regrown d1
    have hne:=neqA x y
    have ki0:(0:Int)<=(k:Int):=by omega
    have ki1:(k:Int) < (m.length:Int):=by omega
    by_cases hxy:x=y
    ·have HT2:=hide (show l.take (k + 1)=m.take (k + 1) from pre_snoc (uh HT) hx (by rw [hy,hxy]))
     rw [decide_eq_true hxy] at hne
     clear h h' hx hy hxy
     go_wp2
     refine wp_region_quiet_below (by assumption) (by kernel_rfl) ?_
     repeat (go_big_quiet_step (fail))
     refine wpQuiet_nil ?_
     intro _ hw'
     obtain ⟨⟨dq,osq⟩,hw''⟩:=hw'
     subst hw''
     go_wp2
     go_roundw
     case rel=>exact ⟨k + 1,by omega,by go_num,HT2,hide ((uh HB).trans ((below_regrown _ _ _).mono (uh HB).size))⟩
     case measure=>simp [intOf];omega
    ·have HN:=hide (show R=false by rw [<- uh HR];exact decide_eq_false (pre_ne hx hy hxy))
     rw [decide_eq_false hxy] at hne
     clear h h' hx hy hxy
     go_wp2
     refine wp_region_quiet_below (by assumption) (by kernel_rfl) ?_
     repeat (go_big_quiet_step (fail))
     refine wpQuiet_nil ?_
     intro _ hw'
     obtain ⟨⟨dq,osq⟩,hw''⟩:=hw'
     subst hw''
     go_wp2
     go_ret
     exact ⟨ret_bool (uh HN).symm,(uh HB).trans ((below_regrown _ _ _).mono (uh HB).size)⟩
   ·obtain rfl:k=m.length:=by omega
    have ki1:¬ (m.length:Int) < (m.length:Int):=by omega
    clear h h'
    go_wp2
    go_ret
    refine ⟨ret_bool ?_,uh HB⟩
    rw [<- uh HR]
    symm
    refine decide_eq_true ?_
    have h1:=uh HT
    rw [List.take_length,<- uh HLn,List.take_length] at h1
    exact h1
 ·have hli:((l.length:Int) != (m.length:Int))=true:=by simp;omega
  rw [decide_eq_false (fun e=>hlen (by rw [e]))]
  clear h h'
  go_enter Tryz.func48,Tryz.ntmps48
  go_wp2
  go_ret
  exact ⟨rfl,Below.refl _ _⟩
end Go.Proofs.YtdgoibnndfibnaaGreatDoor

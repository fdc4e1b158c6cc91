/- Lists held against each other; ops held against each other. -/
import Derived.Test.YtdgoibnndfibnaaGreatDoorRZai
namespace Go.Proofs.YtdgoibnndfibnaaGreatDoor
open Go.RowKit Go.Sort
theorem ba_ext {s t:ByteArray} (h:s.toList=t.toList):s=t:=by
 rw [ByteArray.toList_eq,ByteArray.toList_eq] at h
 cases s;cases t
 simp only at h
 rw [Array.toList_inj.1 h]
theorem take_snoc_of {α:Type} {l:List α} {k:Nat} {x:α} (h:l[k]? = some x):l.take (k + 1)=l.take k ++ [x]:=by
 rw [List.take_add_one,h];rfl
theorem pre_snoc {α:Type} {l m:List α} {k:Nat} {x:α} (h:l.take k=m.take k) (hx:l[k]? = some x) (hy:m[k]? = some x):l.take (k + 1)=m.take (k + 1):=by
 rw [take_snoc_of hx,take_snoc_of hy,h]
theorem pre_ne {α:Type} {l m:List α} {k:Nat} {x y:α} (hx:l[k]? = some x) (hy:m[k]? = some y) (h:x ≠ y):l ≠ m:=fun e=>by subst e;rw [hx] at hy;cases hy;exact h rfl
theorem attrsAt {w:World} {q:Option Addr} {c:Nat} {l:List (ByteArray × Int)} {j:Nat} {x:ByteArray × Int} (h:SlOf encAt 2 w q c l) (hj:l[j]? = some x):∃ b off,q=some ⟨b,off,none⟩/\b < w.heap.size/\w.cell? ⟨b,off + j * 2,none⟩=some (.string x.1)/\w.cell? ⟨b,off + j * 2 + 1,none⟩=some (.int .i64 x.2):=by
 obtain ⟨b,off,hq,hb,hc⟩:=h.2.2.2.at hj
 exact ⟨b,off,hq,hb,hc 0 (by omega),hc 1 (by omega)⟩
set_option maxRecDepth 100000 in
theorem neqQ (x y:Pq) (w:World):(binOp .neq 78 (.agg #[.string x.1,.int .i64 x.2.1,.int .i64 x.2.2.1,.string x.2.2.2]) (.agg #[.string y.1,.int .i64 y.2.1,.int .i64 y.2.2.1,.string y.2.2.2])).run Tryz.prog w=.ok (.bool (!decide (x=y))) w:=by
 have u3:=Tryz.underlying3
 have a3:=Tryz.isAgg3
 have z3:=Tryz.sizeOf3
 have u9:=Tryz.underlying9
 have a9:=Tryz.isAgg9
 have z9:=Tryz.sizeOf9
 have a76:=Tryz.isAgg76
 have z76:=Tryz.sizeOf76
 have hS:Tryz.prog.underlying 78=some (.struct (Tryz.prog.fieldsOf 78)):=by kernel_rfl
 have hp:Tryz.prog.stoodInHeld 78=false:=by kernel_rfl
 have h76:(Op.equalIn 9999 76 (.agg #[.int .i64 x.2.1,.int .i64 x.2.2.1,.string x.2.2.2]) (.agg #[.int .i64 y.2.1,.int .i64 y.2.2.1,.string y.2.2.2])).run Tryz.prog w=.ok (decide (x.2.1=y.2.1/\x.2.2.1=y.2.2.1/\x.2.2.2.toList=y.2.2.2.toList)) w:=by
  clear hS hp
  have hS76:Tryz.prog.underlying 76=some (.struct (Tryz.prog.fieldsOf 76)):=by kernel_rfl
  have hp76:Tryz.prog.stoodInHeld 76=false:=by kernel_rfl
  rw [show (9999:Nat)=9998 + 1 from rfl,run_equalIn_agg w 9998 76 _ _ hS76 hp76]
  simp only [Program.fieldsOf,Tryz.underlying76]
  go_simp
  by_cases h1:x.2.1=y.2.1 <;> by_cases h2:x.2.2.1=y.2.2.1 <;> by_cases h3:x.2.2.2.toList=y.2.2.2.toList <;> simp [h1,h2,h3]
 rw [run_neq_struct,show (10000:Nat)=9999 + 1 from rfl,run_equalIn_agg w 9999 78 _ _ hS hp]
 simp only [Program.fieldsOf,Tryz.underlying78]
 go_simp
 obtain ⟨a,k,n,s⟩:=x
 obtain ⟨a',k',n',s'⟩:=y
 have hd:(((a,k,n,s):Pq)=(a',k',n',s')) ↔ (a.toList=a'.toList/\k=k'/\n=n'/\s.toList=s'.toList):=⟨fun h=>by injection h with h0 h;injection h with h1 h;injection h with h2 h3;exact ⟨by rw [h0],h1,h2,by rw [h3]⟩,fun ⟨h0,h1,h2,h3⟩=>by rw [ba_ext h0,h1,h2,ba_ext h3]⟩
 rw [show decide (((a,k,n,s):Pq)=(a',k',n',s'))=decide (a.toList=a'.toList/\k=k'/\n=n'/\s.toList=s'.toList) from decide_eq_decide.2 hd]
 by_cases h0:a.toList=a'.toList <;> by_cases h1:k=k' <;> by_cases h2:n=n' <;> by_cases h3:s.toList=s'.toList <;> simp [h0,h1,h2,h3]
theorem neqA (x y:ByteArray × Int) (w:World):(binOp .neq 62 (.agg #[.string x.1,.int .i64 x.2]) (.agg #[.string y.1,.int .i64 y.2])).run Tryz.prog w=.ok (.bool (!decide (x=y))) w:=by
 have u3:=Tryz.underlying3
 have a3:=Tryz.isAgg3
 have z3:=Tryz.sizeOf3
 have u9:=Tryz.underlying9
 have a9:=Tryz.isAgg9
 have z9:=Tryz.sizeOf9
 have hS:Tryz.prog.underlying 62=some (.struct (Tryz.prog.fieldsOf 62)):=by kernel_rfl
 have hp:Tryz.prog.stoodInHeld 62=false:=by kernel_rfl
 rw [run_neq_struct,show (10000:Nat)=9999 + 1 from rfl,run_equalIn_agg w 9999 62 _ _ hS hp]
 simp only [Program.fieldsOf,Tryz.underlying62]
 go_simp
 obtain ⟨a,k⟩:=x
 obtain ⟨a',k'⟩:=y
 have hd:(((a,k):ByteArray × Int)=(a',k')) ↔ (a.toList=a'.toList/\k=k'):=⟨fun h=>by injection h with h0 h1;exact ⟨by rw [h0],h1⟩,fun ⟨h0,h1⟩=>by rw [ba_ext h0,h1]⟩
 rw [show decide (((a,k):ByteArray × Int)=(a',k'))=decide (a.toList=a'.toList/\k=k') from decide_eq_decide.2 hd]
 by_cases h0:a.toList=a'.toList <;> by_cases h1:k=k' <;> simp [h0,h1]
set_option maxHeartbeats 2000000 in
set_option maxRecDepth 100000 in
theorem equalI (q:Option Addr) (c:Nat) (l:List Int) (q':Option Addr) (c':Nat) (m:List Int) (w:World) (h:SlOf encI 1 w q c l) (h':SlOf encI 1 w q' c' m) (hl:l.length<=140737488355328) :
  Calls Tryz.prog 78 #[.slice q l.length c,.slice q' m.length c'] w fun e w'=>e=.returned (.bool (decide (l=m)))/\Below w.heap.size w w':=by
 by_cases hlen:l.length=m.length
 ·have hli:((m.length:Int) != (m.length:Int))=false:=by simp
  have a0:(m.length:Int)<=140737488355328:=by omega
  obtain ⟨R,hR⟩:∃ R,decide (l=m)=R:=⟨_,rfl⟩
  rw [hR]
  have HR:=hide hR
  have mixed:Tryz.prog.follows .mixedOrders=true:=by kernel_rfl
  have HLn:=hide hlen
  clear hR
  rw [hlen]
  clear hl hlen
  go_enter Tryz.func78,Tryz.ntmps78
  go_wp2
  go_loopw [13] (fun i wr=>∃ k:Nat,k<=m.length/\i=.int .i64 (k:Int)/\Hid (l.take k=m.take k)/\Hid (Below w.heap.size w wr)) (fun i _=>m.length - (intOf i).toNat)
  case atStart=>exact ⟨0,Nat.zero_le _,rfl,hide rfl,hide (Below.refl _ _)⟩
  case round =>
   obtain ⟨k,hk,rfl,HT,HB⟩:=hrel
   by_cases hlt:k < m.length
   ·obtain ⟨y,hy,_⟩:=get_at hlt
    obtain ⟨x,hx,_⟩:=get_at (show k < l.length by have:=uh HLn;omega)
    obtain ⟨b,off,hq,hb,c0⟩:=intsAt (h.below (uh HB)) hx
    obtain ⟨b',off',hq',hb',d0⟩:=intsAt (h'.below (uh HB)) hy
    subst hq hq'
    have p0:=cell_regrown c0
    have s0:=cell_regrown d0
    have ki0:(0:Int)<=(k:Int):=by omega
    have ki1:(k:Int) < (m.length:Int):=by omega
    by_cases hxy:x=y
    ·have HT2:=hide (show l.take (k + 1)=m.take (k + 1) from pre_snoc (uh HT) hx (by rw [hy,hxy]))
     have hne:(x != y)=false:=by simp [hxy]
     clear h h' hx hy hxy
     go_wp2
     refine wp_region_quiet_below (by assumption) (by kernel_rfl) ?_
     repeat (go_big_quiet_step (fail))
     refine wpQuiet_nil ?_
     intro _ hw'
     obtain ⟨⟨dq,osq⟩,hw''⟩:=hw'
     subst hw''
     go_wp2
     go_roundw
     case rel=>exact ⟨k + 1,by omega,by go_num,HT2,hide ((uh HB).trans ((below_regrown _ _ _).mono (uh HB).size))⟩
     case measure=>simp [intOf];omega
    ·have HN:=hide (show R=false by rw [<- uh HR];exact decide_eq_false (pre_ne hx hy hxy))
     have hne:(x != y)=true:=by simpa using hxy
     clear h h' hx hy hxy
     go_wp2
     refine wp_region_quiet_below (by assumption) (by kernel_rfl) ?_
     repeat (go_big_quiet_step (fail))
     refine wpQuiet_nil ?_
     intro _ hw'
     obtain ⟨⟨dq,osq⟩,hw''⟩:=hw'
     subst hw''
     go_wp2
     go_ret
     exact ⟨ret_bool (uh HN).symm,(uh HB).trans ((below_regrown _ _ _).mono (uh HB).size)⟩
   ·obtain rfl:k=m.length:=by omega
    have ki1:¬ (m.length:Int) < (m.length:Int):=by omega
    clear h h'
    go_wp2
    go_ret
    refine ⟨ret_bool ?_,uh HB⟩
    rw [<- uh HR]
    symm
    refine decide_eq_true ?_
    have h1:=uh HT
    rw [List.take_length,<- uh HLn,List.take_length] at h1
    exact h1
 ·have hli:((l.length:Int) != (m.length:Int))=true:=by simp;omega
  rw [decide_eq_false (fun e=>hlen (by rw [e]))]
  clear h h'
  go_enter Tryz.func78,Tryz.ntmps78
  go_wp2
  go_ret
  exact ⟨rfl,Below.refl _ _⟩
set_option maxHeartbeats 2000000 in
set_option maxRecDepth 100000 in
theorem equalQ (q:Option Addr) (c:Nat) (l:List Pq) (q':Option Addr) (c':Nat) (m:List Pq) (w:World) (h:SlOf encQ 4 w q c l) (h':SlOf encQ 4 w q' c' m) (hl:l.length<=140737488355328) :
  Calls Tryz.prog 106 #[.slice q l.length c,.slice q' m.length c'] w fun e w'=>e=.returned (.bool (decide (l=m)))/\Below w.heap.size w w':=by
 by_cases hlen:l.length=m.length
 ·have hli:((m.length:Int) != (m.length:Int))=false:=by simp
  have a0:(m.length:Int)<=140737488355328:=by omega
  obtain ⟨R,hR⟩:∃ R,decide (l=m)=R:=⟨_,rfl⟩
  rw [hR]
  have HR:=hide hR
  have mixed:Tryz.prog.follows .mixedOrders=true:=by kernel_rfl
  have HLn:=hide hlen
  clear hR
  rw [hlen]
  clear hl hlen
  go_enter Tryz.func106,Tryz.ntmps106
  go_wp2
  go_loopw [13] (fun i wr=>∃ k:Nat,k<=m.length/\i=.int .i64 (k:Int)/\Hid (l.take k=m.take k)/\Hid (Below w.heap.size w wr)) (fun i _=>m.length - (intOf i).toNat)
  case atStart=>exact ⟨0,Nat.zero_le _,rfl,hide rfl,hide (Below.refl _ _)⟩
  case round =>
   obtain ⟨k,hk,rfl,HT,HB⟩:=hrel
   by_cases hlt:k < m.length
   ·obtain ⟨y,hy,_⟩:=get_at hlt
    obtain ⟨x,hx,_⟩:=get_at (show k < l.length by have:=uh HLn;omega)
    obtain ⟨b,off,hq,hb,c0,c1,c2,c3⟩:=pairsAt (h.below (uh HB)) hx
    obtain ⟨b',off',hq',hb',d0,d1,d2,d3⟩:=pairsAt (h'.below (uh HB)) hy
    subst hq hq'
    have p0:=cell_regrown c0
    have s0:=cell_regrown d0
    have p1:=cell_regrown c1
    have s1:=cell_regrown d1
    have p2:=cell_regrown c2
    have s2:=cell_regrown d2
    have p3:=cell_regrown c3
    have s3:=cell_regrown d3
    have hne:=neqQ x y
    have ki0:(0:Int)<=(k:Int):=by omega
    have ki1:(k:Int) < (m.length:Int):=by omega
    by_cases hxy:x=y
    ·have HT2:=hide (show l.take (k + 1)=m.take (k + 1) from pre_snoc (uh HT) hx (by rw [hy,hxy]))
     rw [decide_eq_true hxy] at hne
     clear h h' hx hy hxy
     go_wp2
     refine wp_region_quiet_below (by assumption) (by kernel_rfl) ?_
     repeat (go_big_quiet_step (fail))
     refine wpQuiet_nil ?_
     intro _ hw'
     obtain ⟨⟨dq,osq⟩,hw''⟩:=hw'
     subst hw''
     go_wp2
     go_roundw
     case rel=>exact ⟨k + 1,by omega,by go_num,HT2,hide ((uh HB).trans ((below_regrown _ _ _).mono (uh HB).size))⟩
     case measure=>simp [intOf];omega
    ·have HN:=hide (show R=false by rw [<- uh HR];exact decide_eq_false (pre_ne hx hy hxy))
     rw [decide_eq_false hxy] at hne
     clear h h' hx hy hxy
     go_wp2
     refine wp_region_quiet_below (by assumption) (by kernel_rfl) ?_
     repeat (go_big_quiet_step (fail))
     refine wpQuiet_nil ?_
     intro _ hw'
     obtain ⟨⟨dq,osq⟩,hw''⟩:=hw'
     subst hw''
     go_wp2
     go_ret
     exact ⟨ret_bool (uh HN).symm,(uh HB).trans ((below_regrown _ _ _).mono (uh HB).size)⟩
   ·obtain rfl:k=m.length:=by omega
    have ki1:¬ (m.length:Int) < (m.length:Int):=by omega
    clear h h'
    go_wp2
    go_ret
    refine ⟨ret_bool ?_,uh HB⟩
    rw [<- uh HR]
    symm
    refine decide_eq_true ?_
    have h1:=uh HT
    rw [List.take_length,<- uh HLn,List.take_length] at h1
    exact h1
 ·have hli:((l.length:Int) != (m.length:Int))=true:=by simp;omega
  rw [decide_eq_false (fun e=>hlen (by rw [e]))]
  clear h h'
  go_enter Tryz.func106,Tryz.ntmps106
  go_wp2
  go_ret
  exact ⟨rfl,Below.refl _ _⟩
set_option maxHeartbeats 2000000 in
set_option maxRecDepth 100000 in
theorem equalA (q:Option Addr) (c:Nat) (l:List (ByteArray × Int)) (q':Option Addr) (c':Nat) (m:List (ByteArray × Int)) (w:World) (h:SlOf encAt 2 w q c l) (h':SlOf encAt 2 w q' c' m) (hl:l.length<=140737488355328) :
  Calls Tryz.prog 48 #[.slice q l.length c,.slice q' m.length c'] w fun e w'=>e=.returned (.bool (decide (l=m)))/\Below w.heap.size w w':=by
 by_cases hlen:l.length=m.length
 ·have hli:((m.length:Int) != (m.length:Int))=false:=by simp
  have a0:(m.length:Int)<=140737488355328:=by omega
  obtain ⟨R,hR⟩:∃ R,decide (l=m)=R:=⟨_,rfl⟩
  rw [hR]
  have HR:=hide hR
  have mixed:Tryz.prog.follows .mixedOrders=true:=by kernel_rfl
  have HLn:=hide hlen
  clear hR
  rw [hlen]
  clear hl hlen
  go_enter Tryz.func48,Tryz.ntmps48
  go_wp2
  go_loopw [13] (fun i wr=>∃ k:Nat,k<=m.length/\i=.int .i64 (k:Int)/\Hid (l.take k=m.take k)/\Hid (Below w.heap.size w wr)) (fun i _=>m.length - (intOf i).toNat)
  case atStart=>exact ⟨0,Nat.zero_le _,rfl,hide rfl,hide (Below.refl _ _)⟩
  case round =>
   obtain ⟨k,hk,rfl,HT,HB⟩:=hrel
   by_cases hlt:k < m.length
   ·obtain ⟨y,hy,_⟩:=get_at hlt
    obtain ⟨x,hx,_⟩:=get_at (show k < l.length by have:=uh HLn;omega)
    obtain ⟨b,off,hq,hb,c0,c1⟩:=attrsAt (h.below (uh HB)) hx
    obtain ⟨b',off',hq',hb',d0,d1⟩:=attrsAt (h'.below (uh HB)) hy
    subst hq hq'
    have p0:=cell_regrown c0
    have s0:=cell_regrown d0
    have p1:=cell_regrown c1
    have s1:=cell_regrown d1
    have hne:=neqA x y
    have ki0:(0:Int)<=(k:Int):=by omega
    have ki1:(k:Int) < (m.length:Int):=by omega
    by_cases hxy:x=y
    ·have HT2:=hide (show l.take (k + 1)=m.take (k + 1) from pre_snoc (uh HT) hx (by rw [hy,hxy]))
     rw [decide_eq_true hxy] at hne
     clear h h' hx hy hxy
     go_wp2
     refine wp_region_quiet_below (by assumption) (by kernel_rfl) ?_
     repeat (go_big_quiet_step (fail))
     refine wpQuiet_nil ?_
     intro _ hw'
     obtain ⟨⟨dq,osq⟩,hw''⟩:=hw'
     subst hw''
     go_wp2
     go_roundw
     case rel=>exact ⟨k + 1,by omega,by go_num,HT2,hide ((uh HB).trans ((below_regrown _ _ _).mono (uh HB).size))⟩
     case measure=>simp [intOf];omega
    ·have HN:=hide (show R=false by rw [<- uh HR];exact decide_eq_false (pre_ne hx hy hxy))
     rw [decide_eq_false hxy] at hne
     clear h h' hx hy hxy
     go_wp2
     refine wp_region_quiet_below (by assumption) (by kernel_rfl) ?_
     repeat (go_big_quiet_step (fail))
     refine wpQuiet_nil ?_
     intro _ hw'
     obtain ⟨⟨dq,osq⟩,hw''⟩:=hw'
     subst hw''
     go_wp2
     go_ret
     exact ⟨ret_bool (uh HN).symm,(uh HB).trans ((below_regrown _ _ _).mono (uh HB).size)⟩
   ·obtain rfl:k=m.length:=by omega
    have ki1:¬ (m.length:Int) < (m.length:Int):=by omega
    clear h h'
    go_wp2
    go_ret
    refine ⟨ret_bool ?_,uh HB⟩
    rw [<- uh HR]
    symm
    refine decide_eq_true ?_
    have h1:=uh HT
    rw [List.take_length,<- uh HLn,List.take_length] at h1
    exact h1
 ·have hli:((l.length:Int) != (m.length:Int))=true:=by simp;omega
  rw [decide_eq_false (fun e=>hlen (by rw [e]))]
  clear h h'
  go_enter Tryz.func48,Tryz.ntmps48
  go_wp2
  go_ret
  exact ⟨rfl,Below.refl _ _⟩
end Go.Proofs.YtdgoibnndfibnaaGreatDoor
namespace Go.Proofs.YtdgoibnndfibnaaGreatDoor
open Go.RowKit Go.Sort
deriving instance DecidableEq for Sop
def sameCl (o o':Sop):Bool:=decide (o.ck=o'.ck/\o.id=o'.id/\o.text=o'.text) && decide (o.ev=o'.ev)
theorem eqlC (u v:Ou) (w:World):(binOp .eql 36 (.agg #[.int .i64 u.ck,.int .i64 u.id,.string u.text]) (.agg #[.int .i64 v.ck,.int .i64 v.id,.string v.text])).run Tryz.prog w=.ok (.bool (decide (u.ck=v.ck/\u.id=v.id/\u.text=v.text))) w:=by
 obtain ⟨R,hR⟩:∃ R,decide (u.ck=v.ck/\u.id=v.id/\u.text=v.text)=R:=⟨_,rfl⟩
 rw [hR]
 have u3:=Tryz.underlying3
 have a3:=Tryz.isAgg3
 have z3:=Tryz.sizeOf3
 have u9:=Tryz.underlying9
 have a9:=Tryz.isAgg9
 have z9:=Tryz.sizeOf9
 have hS:Tryz.prog.underlying 36=some (.struct (Tryz.prog.fieldsOf 36)):=by kernel_rfl
 have hp:Tryz.prog.stoodInHeld 36=false:=by kernel_rfl
 rw [run_eql_struct,show (10000:Nat)=9999 + 1 from rfl,run_equalIn_agg w 9999 36 _ _ hS hp]
 simp only [Program.fieldsOf,Tryz.underlying36]
 go_simp
 have hd:(u.ck=v.ck/\u.id=v.id/\u.text=v.text) ↔ (u.ck=v.ck/\u.id=v.id/\u.text.toList=v.text.toList):=⟨fun ⟨h1,h2,h3⟩=>⟨h1,h2,by rw [h3]⟩,fun ⟨h1,h2,h3⟩=>⟨h1,h2,ba_ext h3⟩⟩
 rw [<- hR,show decide (u.ck=v.ck/\u.id=v.id/\u.text=v.text)=decide (u.ck=v.ck/\u.id=v.id/\u.text.toList=v.text.toList) from decide_eq_decide.2 hd]
 by_cases h1:u.ck=v.ck <;> by_cases h2:u.id=v.id <;> by_cases h3:u.text.toList=v.text.toList <;> simp [h1,h2,h3]
theorem two4 (w:World) (u v:Ou):∃ X,(w.alloc (.cells #[.int .i64 u.ck,.int .i64 u.id,.string u.text,.slice u.qe u.ne u.ce] 39)).alloc (.cells #[.int .i64 v.ck,.int .i64 v.id,.string v.text,.slice v.qe v.ne v.ce] 39)=X/\Below w.heap.size w X/\X.heap[w.heap.size]? = some (.cells #[.int .i64 u.ck,.int .i64 u.id,.string u.text,.slice u.qe u.ne u.ce] 39 (0,0))/\X.heap[w.heap.size + 1]? = some (.cells #[.int .i64 v.ck,.int .i64 v.id,.string v.text,.slice v.qe v.ne v.ce] 39 (0,0)):=by
 refine ⟨_,rfl,bal (bal (Below.refl _ _) _) _, ?_, ?_⟩
 ·exact blk_onS (box_new w _) ((Below.refl _ _).alloc (Nat.le_refl _) _)
 ·have h:=box_new (w.alloc (.cells #[.int .i64 u.ck,.int .i64 u.id,.string u.text,.slice u.qe u.ne u.ce] 39)) (.cells #[.int .i64 v.ck,.int .i64 v.id,.string v.text,.slice v.qe v.ne v.ce] 39)
  rw [show (w.alloc (.cells #[.int .i64 u.ck,.int .i64 u.id,.string u.text,.slice u.qe u.ne u.ce] 39)).heap.size=w.heap.size + 1 by simp] at h
  exact h
theorem two7 (w:World) (u v:Ou):∃ X,(w.alloc (.cells #[.int .i64 u.kind,.int .i64 u.who,.int .i64 u.ck,.int .i64 u.id,.string u.text,.slice u.qe u.ne u.ce,.slice u.qn u.nn u.cn] 42)).alloc (.cells #[.int .i64 v.kind,.int .i64 v.who,.int .i64 v.ck,.int .i64 v.id,.string v.text,.slice v.qe v.ne v.ce,.slice v.qn v.nn v.cn] 42)=X/\Below w.heap.size w X/\X.heap[w.heap.size]? = some (.cells #[.int .i64 u.kind,.int .i64 u.who,.int .i64 u.ck,.int .i64 u.id,.string u.text,.slice u.qe u.ne u.ce,.slice u.qn u.nn u.cn] 42 (0,0))/\X.heap[w.heap.size + 1]? = some (.cells #[.int .i64 v.kind,.int .i64 v.who,.int .i64 v.ck,.int .i64 v.id,.string v.text,.slice v.qe v.ne v.ce,.slice v.qn v.nn v.cn] 42 (0,0)):=by
 refine ⟨_,rfl,bal (bal (Below.refl _ _) _) _, ?_, ?_⟩
 ·exact blk_onS (box_new w _) ((Below.refl _ _).alloc (Nat.le_refl _) _)
 ·have h:=box_new (w.alloc (.cells #[.int .i64 u.kind,.int .i64 u.who,.int .i64 u.ck,.int .i64 u.id,.string u.text,.slice u.qe u.ne u.ce,.slice u.qn u.nn u.cn] 42)) (.cells #[.int .i64 v.kind,.int .i64 v.who,.int .i64 v.ck,.int .i64 v.id,.string v.text,.slice v.qe v.ne v.ce,.slice v.qn v.nn v.cn] 42)
  rw [show (w.alloc (.cells #[.int .i64 u.kind,.int .i64 u.who,.int .i64 u.ck,.int .i64 u.id,.string u.text,.slice u.qe u.ne u.ce,.slice u.qn u.nn u.cn] 42)).heap.size=w.heap.size + 1 by simp] at h
  exact h
set_option maxHeartbeats 4000000 in
set_option maxRecDepth 100000 in
theorem sameCall_any {w:World} {u v:Ou} {o p:Sop} (hu:OpIn w u o) (hv:OpIn w v p) (hz:o.ev.length<=140737488355328) :
  Calls Tryz.prog 77 #[.agg #[.int .i64 u.ck,.int .i64 u.id,.string u.text,.slice u.qe u.ne u.ce],.agg #[.int .i64 v.ck,.int .i64 v.id,.string v.text,.slice v.qe v.ne v.ce]] w fun e w'=>e=.returned (.bool (sameCl o p))/\Below w.heap.size w w':=by
 obtain ⟨X,HX,bX,hx,hy⟩:=two4 w u v
 obtain ⟨x0,x1,x2,x3⟩:=of4s hx
 obtain ⟨y0,y1,y2,y3⟩:=of4s hy
 have hE:=equalQ u.qe u.ce o.ev v.qe v.ce p.ev X (hu.ev.below bX) (hv.ev.below bX) hz
 rw [<- hu.ne,<- hv.ne] at hE
 have hC:=eqlC u v
 have BX:=hide bX
 by_cases h1:u.ck=v.ck/\u.id=v.id/\u.text=v.text
 ·have e:sameCl o p=decide (o.ev=p.ev):=by unfold sameCl;rw [<- hu.ck,<- hu.id,<- hu.text,<- hv.ck,<- hv.id,<- hv.text,decide_eq_true h1,Bool.true_and]
  rw [e]
  rw [decide_eq_true h1] at hC
  have HE:=hide hE
  clear hE h1 hx hy bX e hu hv hz
  go_enter Tryz.func77,Tryz.ntmps77
  go_wp2_with (go_at_call 106;refine (uh HE).mono ?_;rintro e w2 ⟨rfl,b2⟩;have B2:=hide b2;clear b2)
  go_ret
  exact ⟨rfl,below_sub (uh BX) (uh B2)⟩
 ·have e:sameCl o p=false:=by unfold sameCl;rw [<- hu.ck,<- hu.id,<- hu.text,<- hv.ck,<- hv.id,<- hv.text,decide_eq_false h1,Bool.false_and]
  rw [e]
  rw [decide_eq_false h1] at hC
  clear hE h1 hx hy bX e hu hv hz
  go_enter Tryz.func77,Tryz.ntmps77
  go_wp2
  go_ret
  exact ⟨rfl,uh BX⟩
theorem sop_parts (o p:Sop):decide (o=p)=(decide (o.kind=p.kind) && (decide (o.who=p.who) && (sameCl o p && decide (o.nums=p.nums)))):=by
 rw [Bool.eq_iff_iff]
 simp only [decide_eq_true_eq,Bool.and_eq_true,sameCl]
 constructor
 ·rintro rfl;exact ⟨rfl,rfl,⟨⟨rfl,rfl,rfl⟩,rfl⟩,rfl⟩
 ·rintro ⟨h1,h2,⟨⟨h3,h4,h5⟩,h6⟩,h7⟩
  cases o;cases p;simp only at *;subst h1 h2 h3 h4 h5 h6 h7;rfl
set_option maxHeartbeats 4000000 in
set_option maxRecDepth 100000 in
theorem sameOp_any {w:World} {u v:Ou} {o p:Sop} (hu:OpIn w u o) (hv:OpIn w v p) (hz:o.ev.length<=140737488355328) (hz2:o.nums.length<=140737488355328) :
  Calls Tryz.prog 50 #[u.val,v.val] w fun e w'=>e=.returned (.bool (decide (o=p)))/\Below w.heap.size w w':=by
 rw [sop_parts]
 obtain ⟨X,HX,bX,hx,hy⟩:=two7 w u v
 obtain ⟨x0,x1,x2,x3,x4,x5,x6⟩:=of7s hx
 obtain ⟨y0,y1,y2,y3,y4,y5,y6⟩:=of7s hy
 have hC:=sameCall_any (hu.below bX) (hv.below bX) hz
 have hE:=fun (W:World) (hb:Below X.heap.size X W)=>equalI u.qn u.cn o.nums v.qn v.cn p.nums W ((hu.nums.below bX).below hb) ((hv.nums.below bX).below hb) hz2
 rw [<- hu.nn,<- hv.nn] at hE
 have BX:=hide bX
 have HE:=hide hE
 have HC:=hide hC
 have hX2:∀ W,Below X.heap.size X W->W.cell? ⟨w.heap.size,6,none⟩=some (.slice u.qn u.nn u.cn)/\W.cell? ⟨w.heap.size + 1,6,none⟩=some (.slice v.qn v.nn v.cn):=fun W hb=>by
  obtain ⟨_,_,_,_,_,_,a⟩:=of7s (blk_onS hx hb)
  obtain ⟨_,_,_,_,_,_,b⟩:=of7s (blk_onS hy hb)
  exact ⟨a,b⟩
 have HX2:=hide hX2
 by_cases h1:o.kind=p.kind
 ·have e1:(u.kind == v.kind)=true:=by rw [hu.kind,hv.kind];simpa using h1
  rw [decide_eq_true h1,Bool.true_and]
  by_cases h2:o.who=p.who
  ·have e2:(u.who == v.who)=true:=by rw [hu.who,hv.who];simpa using h2
   rw [decide_eq_true h2,Bool.true_and]
   cases h3:sameCl o p with
   | true =>
    rw [h3] at HC
    rw [Bool.true_and]
    clear hE hC h1 h2 h3 hx hy bX hu hv hz hz2 hX2
    unfold Ou.val
    go_enter Tryz.func50,Tryz.ntmps50
    go_wp2_with (first
     | (go_at_call 77;refine (uh HC).mono ?_;rintro e w2 ⟨rfl,b2⟩;have B2:=hide b2;clear b2 x6 y6;obtain ⟨x6,y6⟩:=uh HX2 w2 (uh B2))
     | (go_at_call 78;refine (uh HE _ (uh B2)).mono ?_;rintro e w3 ⟨rfl,b3⟩;have B3:=hide (below_sub (uh B2) b3);clear b3))
    go_ret
    exact ⟨rfl,below_sub (uh BX) (uh B3)⟩
   | false =>
    rw [h3] at HC
    rw [Bool.false_and]
    clear hE hC h1 h2 h3 hx hy bX hu hv hz hz2 hX2
    unfold Ou.val
    go_enter Tryz.func50,Tryz.ntmps50
    go_wp2_with (go_at_call 77;refine (uh HC).mono ?_;rintro e w2 ⟨rfl,b2⟩;have B2:=hide b2;clear b2)
    go_ret
    exact ⟨rfl,below_sub (uh BX) (uh B2)⟩
  ·have e2:(u.who == v.who)=false:=by rw [hu.who,hv.who];simpa using h2
   rw [decide_eq_false h2,Bool.false_and]
   clear hE hC h1 h2 hx hy bX hu hv hz hz2 hX2
   unfold Ou.val
   go_enter Tryz.func50,Tryz.ntmps50
   go_wp2
   go_ret
   exact ⟨rfl,uh BX⟩
 ·have e1:(u.kind == v.kind)=false:=by rw [hu.kind,hv.kind];simpa using h1
  rw [decide_eq_false h1,Bool.false_and]
  clear hE hC h1 hx hy bX hu hv hz hz2 hX2
  unfold Ou.val
  go_enter Tryz.func50,Tryz.ntmps50
  go_wp2
  go_ret
  exact ⟨rfl,uh BX⟩
end Go.Proofs.YtdgoibnndfibnaaGreatDoor

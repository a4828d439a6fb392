import Derived.Test.YtcfkhnlkfgmoiaaProg
import Derived.Test.YtcfkhnlkfgmoiaaZf14
import Derived.Test.YtcfkhnlkfgmoiaaZf13
set_option linter.unusedVariables false
set_option linter.unusedSimpArgs false
namespace Go.Proofs.Ytcfkhnlkfgmoiaa.Sx.Z
def tt:TT:=[(2,⟨.int .i64,1,none,[.c (.int .i64 (.lit 0))],none,none,8⟩),
 (3,⟨.int .i64,1,none,[.c (.int .i64 (.lit 0))],none,some ([.int .i64]),8⟩),
 (4,⟨.bool,1,none,[.c (.bool (.lit false))],none,none,1⟩),
 (5,⟨.int .u8,1,none,[.c (.int .u8 (.lit 0))],none,none,1⟩),
 (9,⟨.string,1,none,[.c (.raw (.string ByteArray.empty))],none,none,16⟩),
 (21,⟨.int .i32,1,none,[.c (.int .i32 (.lit 0))],none,none,4⟩),
 (22,⟨.slice 70,1,none,[.c .nils],none,none,24⟩),
 (23,⟨.slice 73,1,none,[.c .nils],none,none,24⟩),
 (25,⟨.struct [(22,0),(23,1)],2,some [.c,.c],[.c .nils,.c .nils],none,none,48⟩),
 (26,⟨.slice 66,1,none,[.c .nils],none,none,24⟩),
 (27,⟨.slice 60,1,none,[.c .nils],none,none,24⟩),
 (28,⟨.slice 3,1,none,[.c .nils],none,some ([.slice 3]),24⟩),
 (30,⟨.struct [(26,0),(27,1),(28,2)],3,some [.c,.c,.c],[.c .nils,.c .nils,.c .nils],none,none,72⟩),
 (31,⟨.int .i64,1,none,[.c (.int .i64 (.lit 0))],none,none,8⟩),
 (34,⟨.slice 57,1,none,[.c .nils],none,none,24⟩),
 (36,⟨.struct [(26,0),(34,1)],2,some [.c,.c],[.c .nils,.c .nils],none,none,48⟩),
 (38,⟨.slice 77,1,none,[.c .nils],none,none,24⟩),
 (40,⟨.struct [(22,0),(38,1),(28,2)],3,some [.c,.c,.c],[.c .nils,.c .nils,.c .nils],none,none,72⟩),
 (45,⟨.int .u64,1,none,[.c (.int .u64 (.lit 0))],none,none,8⟩),
 (46,⟨.slice 48,1,none,[.c .nils],none,none,24⟩),
 (48,⟨.struct [(3,0),(3,1),(3,2),(46,3)],4,some [.c,.c,.c,.c],[.c (.int .i64 (.lit 0)),.c (.int .i64 (.lit 0)),.c (.int .i64 (.lit 0)),.c .nils],none,some ([.int .i64,.int .i64,.int .i64,.slice 48]),48⟩),
 (49,⟨.slice 55,1,none,[.c .nils],none,none,24⟩),
 (52,⟨.struct [(3,0),(48,1),(48,5)],9,some [.c,.c,.c,.c,.c,.c,.c,.c,.c],[.c (.int .i64 (.lit 0)),.c (.int .i64 (.lit 0)),.c (.int .i64 (.lit 0)),.c (.int .i64 (.lit 0)),.c .nils,.c (.int .i64 (.lit 0)),.c (.int .i64 (.lit 0)),.c (.int .i64 (.lit 0)),.c .nils],none,none,104⟩),
 (53,⟨.slice 105,1,none,[.c .nils],none,none,24⟩),
 (55,⟨.struct [(3,0),(3,1),(3,2),(3,3),(48,4),(52,8),(49,17),(49,18),(53,19)],20,some [.c,.c,.c,.c,.c,.c,.c,.c,.c,.c,.c,.c,.c,.c,.c,.c,.c,.c,.c,.c],[.c (.int .i64 (.lit 0)),.c (.int .i64 (.lit 0)),.c (.int .i64 (.lit 0)),.c (.int .i64 (.lit 0)),.c (.int .i64 (.lit 0)),.c (.int .i64 (.lit 0)),.c (.int .i64 (.lit 0)),.c .nils,.c (.int .i64 (.lit 0)),.c (.int .i64 (.lit 0)),.c (.int .i64 (.lit 0)),.c (.int .i64 (.lit 0)),.c .nils,.c (.int .i64 (.lit 0)),.c (.int .i64 (.lit 0)),.c (.int .i64 (.lit 0)),.c .nils,.c .nils,.c .nils,.c .nils],none,some (List.replicate 7 (.int .i64)++[.slice 48,.int .i64,.int .i64,.int .i64,.int .i64,.slice 48,.int .i64,.int .i64,.int .i64,.slice 48,.slice 55,.slice 55,.slice 105]),256⟩),
 (57,⟨.struct [(3,0),(49,1)],2,some [.c,.c],[.c (.int .i64 (.lit 0)),.c .nils],none,some ([.int .i64,.slice 55]),32⟩),
 (58,⟨.slice 80,1,none,[.c .nils],none,some ([.slice 80]),24⟩),
 (60,⟨.struct [(3,0),(58,1),(28,2)],3,some [.c,.c,.c],[.c (.int .i64 (.lit 0)),.c .nils,.c .nils],none,some ([.int .i64,.slice 80,.slice 3]),56⟩),
 (64,⟨.slice 28,1,none,[.c .nils],none,none,24⟩),
 (66,⟨.struct [(3,0),(3,1),(3,2),(3,3),(3,4),(64,5)],6,some [.c,.c,.c,.c,.c,.c],[.c (.int .i64 (.lit 0)),.c (.int .i64 (.lit 0)),.c (.int .i64 (.lit 0)),.c (.int .i64 (.lit 0)),.c (.int .i64 (.lit 0)),.c .nils],none,some ([.int .i64,.int .i64,.int .i64,.int .i64,.int .i64,.slice 28]),64⟩),
 (70,⟨.struct [(3,0),(3,1),(3,2),(3,3),(3,4),(64,5)],6,some [.c,.c,.c,.c,.c,.c],[.c (.int .i64 (.lit 0)),.c (.int .i64 (.lit 0)),.c (.int .i64 (.lit 0)),.c (.int .i64 (.lit 0)),.c (.int .i64 (.lit 0)),.c .nils],none,some ([.int .i64,.int .i64,.int .i64,.int .i64,.int .i64,.slice 28]),64⟩),
 (71,⟨.slice 100,1,none,[.c .nils],none,none,24⟩),
 (73,⟨.struct [(3,0),(71,1)],2,some [.c,.c],[.c (.int .i64 (.lit 0)),.c .nils],none,some ([.int .i64,.slice 100]),32⟩),
 (75,⟨.slice 108,1,none,[.c .nils],none,none,24⟩),
 (77,⟨.struct [(3,0),(75,1),(28,2)],3,some [.c,.c,.c],[.c (.int .i64 (.lit 0)),.c .nils,.c .nils],none,some ([.int .i64,.slice 108,.slice 3]),56⟩),
 (80,⟨.struct [(3,0),(3,1),(3,2),(3,3),(3,4),(3,5),(48,6),(52,10)],19,some [.c,.c,.c,.c,.c,.c,.c,.c,.c,.c,.c,.c,.c,.c,.c,.c,.c,.c,.c],[.c (.int .i64 (.lit 0)),.c (.int .i64 (.lit 0)),.c (.int .i64 (.lit 0)),.c (.int .i64 (.lit 0)),.c (.int .i64 (.lit 0)),.c (.int .i64 (.lit 0)),.c (.int .i64 (.lit 0)),.c (.int .i64 (.lit 0)),.c (.int .i64 (.lit 0)),.c .nils,.c (.int .i64 (.lit 0)),.c (.int .i64 (.lit 0)),.c (.int .i64 (.lit 0)),.c (.int .i64 (.lit 0)),.c .nils,.c (.int .i64 (.lit 0)),.c (.int .i64 (.lit 0)),.c (.int .i64 (.lit 0)),.c .nils],none,some (List.replicate 9 (.int .i64)++[.slice 48,.int .i64,.int .i64,.int .i64,.int .i64,.slice 48,.int .i64,.int .i64,.int .i64,.slice 48]),200⟩),
 (86,⟨.struct [(26,0),(3,1),(3,2)],3,some [.c,.c,.c],[.c .nils,.c (.int .i64 (.lit 0)),.c (.int .i64 (.lit 0))],none,none,40⟩),
 (90,⟨.struct [(60,0)],3,some [.c,.c,.c],[.c (.int .i64 (.lit 0)),.c .nils,.c .nils],none,none,56⟩),
 (93,⟨.slice 95,1,none,[.c .nils],none,none,24⟩),
 (95,⟨.struct [(3,0),(3,1),(3,2),(93,3)],4,some [.c,.c,.c,.c],[.c (.int .i64 (.lit 0)),.c (.int .i64 (.lit 0)),.c (.int .i64 (.lit 0)),.c .nils],none,some ([.int .i64,.int .i64,.int .i64,.slice 95]),48⟩),
 (97,⟨.struct [(3,0),(95,1),(95,5)],9,some [.c,.c,.c,.c,.c,.c,.c,.c,.c],[.c (.int .i64 (.lit 0)),.c (.int .i64 (.lit 0)),.c (.int .i64 (.lit 0)),.c (.int .i64 (.lit 0)),.c .nils,.c (.int .i64 (.lit 0)),.c (.int .i64 (.lit 0)),.c (.int .i64 (.lit 0)),.c .nils],none,none,104⟩),
 (98,⟨.slice 103,1,none,[.c .nils],none,none,24⟩),
 (100,⟨.struct [(3,0),(3,1),(3,2),(3,3),(95,4),(97,8),(71,17),(71,18),(98,19)],20,some [.c,.c,.c,.c,.c,.c,.c,.c,.c,.c,.c,.c,.c,.c,.c,.c,.c,.c,.c,.c],[.c (.int .i64 (.lit 0)),.c (.int .i64 (.lit 0)),.c (.int .i64 (.lit 0)),.c (.int .i64 (.lit 0)),.c (.int .i64 (.lit 0)),.c (.int .i64 (.lit 0)),.c (.int .i64 (.lit 0)),.c .nils,.c (.int .i64 (.lit 0)),.c (.int .i64 (.lit 0)),.c (.int .i64 (.lit 0)),.c (.int .i64 (.lit 0)),.c .nils,.c (.int .i64 (.lit 0)),.c (.int .i64 (.lit 0)),.c (.int .i64 (.lit 0)),.c .nils,.c .nils,.c .nils,.c .nils],none,some (List.replicate 7 (.int .i64)++[.slice 95,.int .i64,.int .i64,.int .i64,.int .i64,.slice 95,.int .i64,.int .i64,.int .i64,.slice 95,.slice 100,.slice 100,.slice 103]),256⟩),
 (103,⟨.struct [(3,0),(3,1),(71,2)],3,some [.c,.c,.c],[.c (.int .i64 (.lit 0)),.c (.int .i64 (.lit 0)),.c .nils],none,some ([.int .i64,.int .i64,.slice 100]),40⟩),
 (105,⟨.struct [(3,0),(3,1),(49,2)],3,some [.c,.c,.c],[.c (.int .i64 (.lit 0)),.c (.int .i64 (.lit 0)),.c .nils],none,some ([.int .i64,.int .i64,.slice 55]),40⟩),
 (108,⟨.struct [(3,0),(3,1),(3,2),(3,3),(3,4),(3,5),(95,6),(97,10)],19,some [.c,.c,.c,.c,.c,.c,.c,.c,.c,.c,.c,.c,.c,.c,.c,.c,.c,.c,.c],[.c (.int .i64 (.lit 0)),.c (.int .i64 (.lit 0)),.c (.int .i64 (.lit 0)),.c (.int .i64 (.lit 0)),.c (.int .i64 (.lit 0)),.c (.int .i64 (.lit 0)),.c (.int .i64 (.lit 0)),.c (.int .i64 (.lit 0)),.c (.int .i64 (.lit 0)),.c .nils,.c (.int .i64 (.lit 0)),.c (.int .i64 (.lit 0)),.c (.int .i64 (.lit 0)),.c (.int .i64 (.lit 0)),.c .nils,.c (.int .i64 (.lit 0)),.c (.int .i64 (.lit 0)),.c (.int .i64 (.lit 0)),.c .nils],none,some (List.replicate 9 (.int .i64)++[.slice 95,.int .i64,.int .i64,.int .i64,.int .i64,.slice 95,.int .i64,.int .i64,.int .i64,.slice 95]),200⟩),
 (121,⟨.int .u64,1,none,[.c (.int .u64 (.lit 0))],none,none,8⟩),
 (122,⟨.slice 58,1,none,[.c .nils],none,none,24⟩),
 (127,⟨.other,1,none,[.c (.raw .nilFunc)],none,none,8⟩),
 (132,⟨.array 4 4,4,some [.c,.c,.c,.c],[.c (.bool (.lit false)),.c (.bool (.lit false)),.c (.bool (.lit false)),.c (.bool (.lit false))],some [(.b,4)],none,4⟩),
 (148,⟨.int .u32,1,none,[.c (.int .u32 (.lit 0))],none,none,4⟩),
 (163,⟨.other,1,none,[.c (.raw .nilFunc)],none,none,8⟩)]
theorem tt_ok:TTOK Try.prog tt:=ttAll_ok rfl ⟨by kernel_rfl,trivial,by kernel_rfl,⟨by kernel_rfl,by kernel_rfl,by kernel_rfl⟩,by kernel_rfl,trivial,by kernel_rfl,trivial,by kernel_rfl,trivial,by kernel_rfl,trivial,by kernel_rfl,trivial,by kernel_rfl,trivial,by kernel_rfl,trivial,by kernel_rfl,trivial,by kernel_rfl,trivial,by kernel_rfl,⟨by kernel_rfl,by kernel_rfl,by kernel_rfl⟩,by kernel_rfl,trivial,by kernel_rfl,trivial,by kernel_rfl,trivial,by kernel_rfl,trivial,by kernel_rfl,trivial,by kernel_rfl,trivial,by kernel_rfl,trivial,by kernel_rfl,trivial,by kernel_rfl,⟨by kernel_rfl,by kernel_rfl,by kernel_rfl⟩,by kernel_rfl,trivial,by kernel_rfl,trivial,by kernel_rfl,trivial,by kernel_rfl,⟨by kernel_rfl,by kernel_rfl,by kernel_rfl⟩,by kernel_rfl,⟨by kernel_rfl,by kernel_rfl,by kernel_rfl⟩,by kernel_rfl,⟨by kernel_rfl,by kernel_rfl,by kernel_rfl⟩,by kernel_rfl,⟨by kernel_rfl,by kernel_rfl,by kernel_rfl⟩,by kernel_rfl,trivial,by kernel_rfl,⟨by kernel_rfl,by kernel_rfl,by kernel_rfl⟩,by kernel_rfl,⟨by kernel_rfl,by kernel_rfl,by kernel_rfl⟩,by kernel_rfl,trivial,by kernel_rfl,⟨by kernel_rfl,by kernel_rfl,by kernel_rfl⟩,by kernel_rfl,trivial,by kernel_rfl,⟨by kernel_rfl,by kernel_rfl,by kernel_rfl⟩,by kernel_rfl,⟨by kernel_rfl,by kernel_rfl,by kernel_rfl⟩,by kernel_rfl,trivial,by kernel_rfl,trivial,by kernel_rfl,trivial,by kernel_rfl,⟨by kernel_rfl,by kernel_rfl,by kernel_rfl⟩,by kernel_rfl,trivial,by kernel_rfl,trivial,by kernel_rfl,⟨by kernel_rfl,by kernel_rfl,by kernel_rfl⟩,by kernel_rfl,⟨by kernel_rfl,by kernel_rfl,by kernel_rfl⟩,by kernel_rfl,⟨by kernel_rfl,by kernel_rfl,by kernel_rfl⟩,by kernel_rfl,⟨by kernel_rfl,by kernel_rfl,by kernel_rfl⟩,by kernel_rfl,trivial,by kernel_rfl,trivial,by kernel_rfl,trivial,by kernel_rfl,trivial,by kernel_rfl,trivial,by kernel_rfl,trivial,trivial⟩
theorem kall:kAll tt=true:=by kernel_rfl
theorem mixed:Try.prog.follows .mixedOrders=true:=by kernel_rfl
end Go.Proofs.Ytcfkhnlkfgmoiaa.Sx.Z
namespace Go.Proofs.Ytcfkhnlkfgmoiaa.Sx
end Go.Proofs.Ytcfkhnlkfgmoiaa.Sx
namespace Go.Proofs.Ytcfkhnlkfgmoiaa.Sx.Z
open Go.RowKit
def lI:AP:=.sc (.int .i64)
theorem lel_lt {d:D} {i j:Nat} (h:i<d.len):SizeOf.sizeOf (d.el i j)<SizeOf.sizeOf d:=by
 cases d with
 |l rows=>
  have h':i<rows.length:=h;have e:(D.l rows).el i j=(rows[i]).getD j (.i 0):=by
   show (rows.getD i []).getD j (.i 0)=_;rw [List.getD_eq_getElem?_getD (l:=rows),List.getElem?_eq_getElem h',Option.getD_some]
  rw [e,List.getD_eq_getElem?_getD];have h1:=List.sizeOf_lt_of_mem (List.getElem_mem h')
  cases hj:(rows[i])[j]? with
  |none=>
   rw [Option.getD_none];have:SizeOf.sizeOf (D.i 0)=1+SizeOf.sizeOf (0:Int):=rfl;have e2:SizeOf.sizeOf (0:Int)=1:=rfl;have:SizeOf.sizeOf (D.l rows)=1+SizeOf.sizeOf rows:=by simp
   have h2:1<=SizeOf.sizeOf (rows[i]):=by cases rows[i]<;>simp<;>omega
   omega
  |some x=>
   rw [Option.getD_some];have h2:=List.sizeOf_lt_of_mem (List.mem_of_getElem? hj);have:SizeOf.sizeOf (D.l rows)=1+SizeOf.sizeOf rows:=by simp
   omega
 |i n=>exact absurd h (Nat.not_lt_zero i)
 |b n=>exact absurd h (Nat.not_lt_zero i)
 |s n=>exact absurd h (Nat.not_lt_zero i)
def biB (k:Int):Bool:=decide (k>=4)&&decide (k<=8)
theorem bi_in {k:Int} (h:biB k=true):4<=k/\k<=8:=by unfold biB at h;simp at h;omega
def allB (n:Nat) (f:Nat->Bool):Bool:=(List.range n).all f
theorem allB_iff {n:Nat} {f:Nat->Bool}:allB n f=true ↔ ∀ i,i<n->f i=true:=by
 unfold allB;rw [List.all_eq_true];exact ⟨fun h i hi=>h i (List.mem_range.2 hi),fun h i hi=>h i (List.mem_range.1 hi)⟩
theorem allB_yes {n:Nat} {f:Nat->Bool} (h:∀ i,i<n->f i=true):allB n f=true:=allB_iff.2 h
theorem allB_no {n i:Nat} {f:Nat->Bool} (hi:i<n) (h:f i=false):allB n f=false:=by
 cases hc:allB n f with
 |false=>rfl
 |true=>rw [allB_iff.1 hc i hi] at h;cases h
theorem allF_eq {n:Nat} (f:Nat->Bool):((List.finRange n).all fun i=>f i.1)=allB n f:=by
 have h1:((List.finRange n).all fun i=>f i.1)=true↔allB n f=true:=by
  rw [allB_iff,List.all_eq_true];exact ⟨fun h i hi=>h ⟨i,hi⟩ (List.mem_finRange _),fun h i _=>h i.1 i.2⟩
 cases hc:allB n f with
 |true=>exact h1.2 hc
 |false=>
  cases hd:((List.finRange n).all fun i=>f i.1) with
  |false=>rfl
  |true=>rw [h1.1 hd] at hc;cases hc
def cpTo (n:Nat) (f:Nat->List D):D:=.l ((List.range n).map f)
theorem cpTo_len (n:Nat) (f:Nat->List D):(cpTo n f).len=n:=by
 show ((List.range n).map f).length=n;rw [List.length_map,List.length_range]
theorem cpTo_succ (n:Nat) (f:Nat->List D):(cpTo (n+1) f).rows=(cpTo n f).rows++[f n]:=by
 show (List.range (n+1)).map f=(List.range n).map f++[f n];rw [List.range_succ,List.map_append];rfl
theorem cpF_eq {n:Nat} (f:Nat->List D):D.l ((List.finRange n).map fun i=>f i.1)=cpTo n f:=by
 unfold cpTo
 congr 1
 apply List.ext_getElem
 ·simp
 ·intro i h1 h2
  simp
def nD (d:D):D:=.l d.rows
theorem takeAll (n:Nat) (f:Nat->List D):List.drop 0 (List.take (0+n) ((List.range n).map f))=(List.range n).map f:=by
 rw [Nat.zero_add,List.drop_zero,List.take_of_length_le (by simp)]
end Go.Proofs.Ytcfkhnlkfgmoiaa.Sx.Z
namespace Go.Proofs.Ytcfkhnlkfgmoiaa.Sx.Z
open Go.RowKit
def kX:AP:=.agg [.c (.int .i64),.c (.int .i64),.c (.int .i64),.c (.rows 48)]
def kCo:AP:=.agg [.c (.int .i64),.c (.int .i64),.c (.int .i64),.c (.int .i64),.c (.rows 48),.c (.int .i64),.c (.int .i64),.c (.int .i64),.c (.rows 48)]
def kSt:AP:=.agg [.c (.int .i64),.c (.int .i64),.c (.int .i64),.c (.int .i64),.c (.int .i64),.c (.int .i64),.c (.int .i64),.c (.rows 48),.c (.int .i64),.c (.int .i64),.c (.int .i64),.c (.int .i64),.c (.rows 48),.c (.int .i64),.c (.int .i64),.c (.int .i64),.c (.rows 48),.c (.rows 55),.c (.rows 55),.c (.rows 105)]
def kIn:AP:=.agg [.c (.rows 66),.c (.int .i64),.c (.int .i64)]
def plK (a n:Int):Bool:=decide (a>=0)&&decide (a<n)
theorem plK_iff {a n:Int}:plK a n=true↔0<=a/\a<n:=by
 unfold plK;rw [Bool.and_eq_true,decide_eq_true_iff,decide_eq_true_iff]
def xkB (vs k n v len:Int) (f:Nat->Bool):Bool:=
 if k=1 then decide (n>=0)&&decide (n<=2147483647)&&v==0&&len==0 else if k=2 then plK v vs&&n==0&&len==0 else if k=3 then len==1&&(f 0&&(n==0&&v==0)) else if biB k=true then len==2&&(f 0&&f 1&&(n==0&&v==0)) else false
def xkE (vs:Int) (d:D) (i:Nat):Bool:=if _h:i<d.len then xkB vs (d.el i 0).toI (d.el i 1).toI (d.el i 2).toI (d.el i 3).len (fun j=>xkE vs (d.el i 3) j) else false
 termination_by SizeOf.sizeOf d
 decreasing_by exact lel_lt (by assumption)
def xkX (vs k n v:Int) (d:D):Bool:=xkB vs k n v d.len (xkE vs d)
theorem xkE_eq {vs:Int} {d:D} {i:Nat} (h:i<d.len):xkE vs d i=xkX vs (d.el i 0).toI (d.el i 1).toI (d.el i 2).toI (d.el i 3):=by
 rw [xkE,dif_pos h];rfl
theorem xkX_bin {vs k n v:Int} {d:D} (h:biB k=true):xkX vs k n v d=((d.len:Int)==2&&(xkE vs d 0&&xkE vs d 1&&(n==0&&v==0))):=by
 have hb:=bi_in h;unfold xkX xkB;rw [if_neg (by omega),if_neg (by omega),if_neg (by omega),if_pos h]
theorem xkX_no {vs k n v:Int} {d:D} (h1:k≠1) (h2:k≠2) (h3:k≠3) (h:biB k=false):xkX vs k n v d=false:=by
 unfold xkX xkB;rw [if_neg h1,if_neg h2,if_neg h3,if_neg (by rw [h];decide)]
def xkC (vs op lk ln lv:Int) (ld:D) (rk rn rv:Int) (rd:D):Bool:=decide (op>=1)&&decide (op<=6)&&xkX vs lk ln lv ld&&xkX vs rk rn rv rd
def xkN (k n v len:Int):Bool:=k==0&&n==0&&v==0&&len==0
def skF (vs k v c t:Int) (e ne cr nc sd b el ar:Bool) (bl ell al:Int):Bool:=
 if k=1 then plK v vs&&e&&c==0&&t==0&&nc&&bl==0&&ell==0&&al==0
 else if k=2 then cr&&b&&el&&v==0&&c==0&&t==0&&ne&&al==0
 else if k=3 then cr&&b&&v==0&&c==0&&t==0&&ne&&ell==0&&al==0
 else if k=4 then sd&&e&&v==0&&nc&&bl==0&&ell==0&&al==0
 else if k=5 then ar&&v==0&&t==0&&ne&&nc&&bl==0&&ell==0
 else if k=6 then cr&&v==0&&c==0&&t==0&&ne&&bl==0&&ell==0&&al==0
 else if k=7 then plK v vs&&c==0&&t==0&&ne&&nc&&bl==0&&ell==0&&al==0 else false
def nkS (k v c t ek en ev el op lk ln lv ll rk rn rv rl bl ell al:Int):Bool:=k==0&&v==0&&c==0&&t==0&&xkN ek en ev el&&op==0&&xkN lk ln lv ll&&xkN rk rn rv rl&&bl==0&&ell==0&&al==0
def skD (ch:D) (pc c t:Int):Bool:=plK c ch.len&&(ch.el c.toNat 2).toI==pc&&plK t (ch.el c.toNat 4).toI
def tgU (am:D) (n:Nat) (t:Int):Bool:=(List.range n).any fun j=>(am.el j 0).toI==t
def bkR (ch:D) (pc vs:Int) (d:D):Bool:=(List.finRange d.len).all fun (i:Fin d.len)=>
 skF vs (d.el i 0).toI (d.el i 1).toI (d.el i 2).toI (d.el i 3).toI (xkX vs (d.el i 4).toI (d.el i 5).toI (d.el i 6).toI (d.el i 7)) (xkN (d.el i 4).toI (d.el i 5).toI (d.el i 6).toI (d.el i 7).len)
  (xkC vs (d.el i 8).toI (d.el i 9).toI (d.el i 10).toI (d.el i 11).toI (d.el i 12) (d.el i 13).toI (d.el i 14).toI (d.el i 15).toI (d.el i 16))
  ((d.el i 8).toI==0&&xkN (d.el i 9).toI (d.el i 10).toI (d.el i 11).toI (d.el i 12).len&&xkN (d.el i 13).toI (d.el i 14).toI (d.el i 15).toI (d.el i 16).len)
  (skD ch pc (d.el i 2).toI (d.el i 3).toI) (bkR ch pc vs (d.el i 17)) (bkR ch pc vs (d.el i 18))
  (plK (d.el i 2).toI ch.len&&(ch.el (d.el i 2).toI.toNat 3).toI==pc && !(((d.el i 19).len:Int)==0)&&(List.finRange (d.el i 19).len).all fun (j:Fin (d.el i 19).len)=>
    plK ((d.el i 19).el j 0).toI (ch.el (d.el i 2).toI.toNat 4).toI && !tgU (d.el i 19) j ((d.el i 19).el j 0).toI&&plK ((d.el i 19).el j 1).toI vs&&bkR ch pc vs ((d.el i 19).el j 2))
  (d.el i 17).len (d.el i 18).len (d.el i 19).len
 termination_by SizeOf.sizeOf d
 decreasing_by
  ·exact lel_lt i.isLt
  ·exact lel_lt i.isLt
  ·exact Nat.lt_trans (lel_lt j.isLt) (lel_lt i.isLt)
def arK (ch:D) (pc vs ts:Int) (am:D) (j:Nat):Bool:=plK (am.el j 0).toI ts && !tgU am j (am.el j 0).toI&&plK (am.el j 1).toI vs&&bkR ch pc vs (am.el j 2)
def rvK (ch:D) (pc vs c:Int) (am:D):Bool:=plK c ch.len&&(ch.el c.toNat 3).toI==pc && !((am.len:Int)==0)&&allB am.len (arK ch pc vs (ch.el c.toNat 4).toI am)
def skS (ch:D) (pc vs k v c t ek en ev:Int) (ed:D) (op lk ln lv:Int) (ld:D) (rk rn rv:Int) (rd bd eb am:D):Bool:=
 skF vs k v c t (xkX vs ek en ev ed) (xkN ek en ev ed.len) (xkC vs op lk ln lv ld rk rn rv rd) (op==0&&xkN lk ln lv ld.len&&xkN rk rn rv rd.len) (skD ch pc c t) (bkR ch pc vs bd) (bkR ch pc vs eb) (rvK ch pc vs c am) bd.len eb.len am.len
def skE (ch:D) (pc vs:Int) (d:D) (i:Nat):Bool:=skS ch pc vs (d.el i 0).toI (d.el i 1).toI (d.el i 2).toI (d.el i 3).toI (d.el i 4).toI (d.el i 5).toI (d.el i 6).toI (d.el i 7) (d.el i 8).toI (d.el i 9).toI (d.el i 10).toI (d.el i 11).toI (d.el i 12) (d.el i 13).toI (d.el i 14).toI (d.el i 15).toI (d.el i 16) (d.el i 17) (d.el i 18) (d.el i 19)
theorem bkR_eq (ch:D) (pc vs:Int) (d:D):bkR ch pc vs d=allB d.len (skE ch pc vs d):=by
 rw [bkR,<- allF_eq]
 congr 1
 funext i
 unfold skE skS rvK arK;rw [<- allF_eq]
def kOK (d:D):Prop:=d.len<=4000000000000/\∀ i:Fin d.len,kOK (d.el i 17)/\kOK (d.el i 18)/\(d.el i 19).len<=4000000000000/\∀ j:Fin (d.el i 19).len,kOK ((d.el i 19).el j 2)
 termination_by SizeOf.sizeOf d
 decreasing_by
  ·exact lel_lt i.isLt
  ·exact lel_lt i.isLt
  ·exact Nat.lt_trans (lel_lt j.isLt) (lel_lt i.isLt)
def amK (am:D):Prop:=am.len<=4000000000000/\∀ j,j<am.len->kOK (am.el j 2)
theorem kOK_iff (d:D):kOK d↔d.len<=4000000000000/\∀ i,i<d.len->kOK (d.el i 17)/\kOK (d.el i 18)/\amK (d.el i 19):=by
 rw [kOK];constructor
 ·rintro ⟨h,k⟩;refine ⟨h,fun i hi=>?_⟩;obtain ⟨a,b,c,e⟩:=k ⟨i,hi⟩;exact ⟨a,b,c,fun j hj=>e ⟨j,hj⟩⟩
 ·rintro ⟨h,k⟩;refine ⟨h,fun i=>?_⟩;obtain ⟨a,b,c,e⟩:=k i.1 i.2;exact ⟨a,b,c,fun j=>e j.1 j.2⟩
theorem k_ext {f:Nat->Bool} {i:Nat} (h:∀ j,j<i->f j=true) (g:f i=true):∀ j,j<i+1->f j=true:=fun j hj=>by
 rcases Nat.lt_or_ge j i with h1 |h1
 ·exact h j h1
 ·obtain rfl:j=i:=by omega
  exact g
theorem k_nx {i:Nat} (h:i<=1000000000000000):IntKind.i64.wrap ((i:Int)+1)=((i+1:Nat):Int):=by rw [IntWalk.i64_in _ (by omega)];omega
theorem k_n (i:Nat):(i:Int).toNat=i:=Int.toNat_natCast i
theorem allB_1 (f:Nat->Bool):allB 1 f=f 0:=by simp [allB]
theorem allB_2 (f:Nat->Bool):allB 2 f=(f 0&&f 1):=by simp [allB,List.range_succ]
theorem xk_1 {vs k n v:Int} {d:D} (h:k=3):((d.len:Int)==1&&(allB d.len (xkE vs d)&&(n==0&&v==0)))=xkX vs k n v d:=by
 subst h;show _=((d.len:Int)==1&&(xkE vs d 0&&(n==0&&v==0)))
 by_cases hl:d.len=1
 ·rw [hl,allB_1]
 ·have q:((d.len:Int)==1)=false:=by simpa using (by omega:¬ (d.len:Int)=1)
  rw [q];rfl
theorem xk_2 {vs k n v:Int} {d:D} (h:biB k=true):((d.len:Int)==2&&(allB d.len (xkE vs d)&&(n==0&&v==0)))=xkX vs k n v d:=by
 rw [xkX_bin h]
 by_cases hl:d.len=2
 ·rw [hl,allB_2]
 ·have q:((d.len:Int)==2)=false:=by simpa using (by omega:¬ (d.len:Int)=2)
  rw [q];rfl
noncomputable def kplS:FSpec:=fun ds _=>match ds with
 | [.i a,.i n]=>some {val:=.one (.sc (.bool (.sym (plK a n)))),vc:=[]}
 |_=>none
noncomputable def kplC:Con:=con [lI,lI] kplS
theorem kpl_ok:ConOK Try.prog 32 kplC:=by
 refine fn_ob tt_ok mixed Try.func32 rfl (fun _ _=>by kernel_rfl) (A:=fun ds=>⟨fun _=>Cons.of [],fun _=>none,fun _=>none⟩) (fun _ _=>cons_nil) (by kernel_rfl) ?_
 intro ds fr;unfold kplS;split
 ·rename_i a n;refine kmp (q:=(decide (a>=(0:Int))&&decide (a<n))=plK a n) (by kernel_rfl) ?_
  rfl
 ·trivial
noncomputable def kvrS:FSpec:=fun ds _=>match ds with
 | [.d ch,.i pc,.i vs,.i a]=>some {val:=.one (.sc (.bool (.sym (plK a vs)))),vc:=[]}
 |_=>none
noncomputable def kvrC:Con:=con [kIn,lI] kvrS
theorem kvr_ok:ConOK Try.prog 51 kvrC:=by
 refine fn_ob tt_ok mixed Try.func51 rfl (fun _ _=>by kernel_rfl) (A:=fun ds=>⟨fun _=>Cons.of [(32,kplC)],fun _=>none,fun _=>none⟩) (fun _ _=>(cons_cons kpl_ok cons_nil)) (by kernel_rfl) ?_
 intro ds fr;unfold kvrS;split
 ·rename_i ch pc vs a;refine kmp (q:=plK a vs=plK a vs) (by kernel_rfl) ?_
  exact rfl
 ·trivial
noncomputable def kenS:FSpec:=fun ds _=>match ds with
 | [.i k,.i n,.i v,.d d]=>some {val:=.one (.sc (.bool (.sym (xkN k n v d.len)))),vc:=[]}
 |_=>none
noncomputable def kenC:Con:=con [kX] kenS
theorem ken_ok:ConOK Try.prog 78 kenC:=by
 refine fn_ob tt_ok mixed Try.func78 rfl (fun _ _=>by kernel_rfl) (A:=fun ds=>⟨fun _=>Cons.of [],fun _=>none,fun _=>none⟩) (fun _ _=>cons_nil) (by kernel_rfl) ?_
 intro ds fr;unfold kenS;split
 ·rename_i k n v d;refine kmp (q:=(k==(0:Int)&&n==(0:Int)&&v==(0:Int)&&(d.len:Int)==(0:Int))=xkN k n v (d.len:Int)) (by kernel_rfl) ?_
  rfl
 ·trivial
noncomputable def ksnS:FSpec:=fun ds _=>match ds with
 | [.i k,.i v,.i c,.i t,.i ek,.i en,.i ev,.d ed,.i op,.i lk,.i ln,.i lv,.d ld,.i rk,.i rn,.i rv,.d rd,.d bd,.d eb,.d am]=>some {val:=.one (.sc (.bool (.sym (nkS k v c t ek en ev ed.len op lk ln lv ld.len rk rn rv rd.len bd.len eb.len am.len)))),vc:=[]}
 |_=>none
noncomputable def ksnC:Con:=con [kSt] ksnS
set_option maxRecDepth 100000 in
theorem ksn_ok:ConOK Try.prog 53 ksnC:=by
 refine fn_ob tt_ok mixed Try.func53 rfl (fun _ _=>by kernel_rfl) (A:=fun ds=>⟨fun _=>Cons.of [(78,kenC)],fun _=>none,fun _=>none⟩) (fun _ _=>(cons_cons ken_ok cons_nil)) (by kernel_rfl) ?_
 intro ds fr;unfold ksnS;split
 ·rename_i k v c t ek en ev ed op lk ln lv ld rk rn rv rd bd eb am;refine kmp (q:=(k==(0:Int)&&v==(0:Int)&&c==(0:Int)&&t==(0:Int)&&xkN ek en ev (ed.len:Int)&&op==(0:Int)&&xkN lk ln lv (ld.len:Int)&&xkN rk rn rv (rd.len:Int)&&(bd.len:Int)==(0:Int)&&(eb.len:Int)==(0:Int)&&(am.len:Int)==(0:Int))=nkS k v c t ek en ev (ed.len:Int) op lk ln lv (ld.len:Int) rk rn rv (rd.len:Int) (bd.len:Int) (eb.len:Int) (am.len:Int)) (by kernel_rfl) ?_
  rfl
 ·trivial
noncomputable def kxrS:FSpec:=fun ds _=>match ds with
 | [.d ch,.i pc,.i vs,.i k,.i n,.i v,.d d]=>some {val:=.one (.sc (.bool (.sym (xkX vs k n v d)))),vc:=[]}
 |_=>none
noncomputable def kxrC:Con:=con [kIn,kX] kxrS
noncomputable def kxrM:List Dat->Nat:=fun ds=>match ds with
 | [.d ch,.i pc,.i vs,.i k,.i n,.i v,.d d]=>SizeOf.sizeOf d
 |_=>0
noncomputable def kxrSu (m:Nat):FSpec:=fun ds _=>match ds with
 | [.d ch,.i pc,.i vs,.i k,.i n,.i v,.d d]=>some {val:=.one (.sc (.bool (.sym (xkX vs k n v d)))),vc:=[SizeOf.sizeOf d<m]}
 |_=>none
theorem kxr_under (m:Nat):kxrS.under kxrM m=kxrSu m:=by
 funext ds fr
 unfold FSpec.under kxrS kxrM kxrSu;split
 ·rename_i e h
  split at h
  ·obtain rfl:=Option.some.inj h;rfl
  ·cases h
 ·rename_i h
  split at h
  ·cases h
  ·rfl
noncomputable def kkrS (m:Nat):FSpec:=fun ds _=>match ds with
 | [.d ch,.i pc,.i vs,.i k,.i n,.i v,.d d]=>some {val:=.one (.sc (.bool (.sym (allB d.len (xkE vs d)&&(n==0&&v==0))))),vc:=[SizeOf.sizeOf d<=m,d.len<=4000000000000]}
 |_=>none
noncomputable def kkrC (m:Nat):Con:=con [kIn,kX] (kkrS m)
theorem kkr_ok {m:Nat} (ih:ConOK Try.prog 52 (con [kIn,kX] (kxrSu m))):ConOK Try.prog 77 (kkrC m):=by
 refine fn_ob tt_ok mixed Try.func77 rfl (fun _ _=>by kernel_rfl) (A:=fun ds=>⟨fun _=>Cons.of [(52,con [kIn,kX] (kxrSu m))],fun k=>match k,ds with | 2,[.d ch,.i pc,.i vs,.i k,.i n,.i v,.d d]=>some {ι:=Nat,pre:=fun _ i=>i<=d.len/\∀ j,j<i->xkE vs d j=true,μ:=fun i=>d.len-i,st:=fun s i=>famR s [(10,.one (.sc (.int .i64 (.sym ((i:Int))))))] [2,3,8,9] [] [2,3]} |_,_=>none,fun _=>none⟩) (fun _ _=>(cons_cons ih cons_nil)) (by kernel_rfl) ?_
 intro ds fr;unfold kkrS;split
 ·rename_i ch pc vs k n v d;refine kmp (q:=SizeOf.sizeOf d<=m->d.len<=4000000000000->(∃ (i:Nat),(i<=d.len/\∀ (j:Nat),j<i->xkE vs d j=true)/\(0:Int)=(i:Int)/\d.rows=d.rows/\(d.len:Int)=(d.len:Int)/\ch.rows=ch.rows/\pc=pc/\vs=vs/\k=k/\n=n/\v=v/\d.rows=d.rows)/\∀ (i:Nat),(i<=d.len/\∀ (j:Nat),j<i->xkE vs d j=true)->(decide ((i:Int)<(d.len:Int))=true->((0:Int)<=(i:Int)/\(i:Int)<(d.len:Int))/\SizeOf.sizeOf (d.el (i:Int).toNat 3)<m/\((!xkX vs (d.el (i:Int).toNat 0).toI (d.el (i:Int).toNat 1).toI (d.el (i:Int).toNat 2).toI (d.el (i:Int).toNat 3))=true->false=(allB d.len (xkE vs d)&&(n==(0:Int)&&v==(0:Int))))/\((!xkX vs (d.el (i:Int).toNat 0).toI (d.el (i:Int).toNat 1).toI (d.el (i:Int).toNat 2).toI (d.el (i:Int).toNat 3))=false->∃ (j:Nat),(j<=d.len/\∀ (j_1:Nat),j_1<j->xkE vs d j_1=true)/\d.len-j<d.len-i/\IntKind.i64.wrap ((i:Int)+(1:Int))=(j:Int)/\d.rows=d.rows/\(d.len:Int)=(d.len:Int)/\ch.rows=ch.rows/\pc=pc/\vs=vs/\k=k/\n=n/\v=v/\d.rows=d.rows))/\(decide ((i:Int)<(d.len:Int))=false->(n==(0:Int)&&v==(0:Int))=(allB d.len (xkE vs d)&&(n==(0:Int)&&v==(0:Int))))) (by kernel_rfl) ?_
  intro hm hl;simp only [Nat.reduceAdd,Nat.zero_add,k_n];refine ⟨⟨0,⟨Nat.zero_le _,fun j hj=>absurd hj (Nat.not_lt_zero j)⟩,rfl,(by (repeat' (with_reducible apply And.intro))<;>first |exact True.intro |rfl)⟩,fun i hp=>⟨fun hc=>?_,fun hc=>?_⟩⟩
  ·have hc:=of_decide_eq_true hc;have hi:i<d.len:=by omega
   have z:=lel_lt (j:=3) hi;rw [<- xkE_eq hi];refine ⟨⟨by omega,by omega⟩,by omega,fun hq=>?_,fun hq=>?_⟩
   ·rw [allB_no hi (by simpa using hq)];rfl
   ·exact ⟨i+1,⟨hi,k_ext hp.2 (by simpa using hq)⟩,by omega,k_nx (by omega),(by (repeat' (with_reducible apply And.intro))<;>first |exact True.intro |rfl)⟩
  ·have hc:=of_decide_eq_false hc;rw [allB_yes fun j hj=>hp.2 j (by omega)];rfl
 ·trivial
theorem kxr_step (m:Nat) (ih:ConOK Try.prog 52 (con [kIn,kX] (kxrSu m))):ConOK Try.prog 52 (con [kIn,kX] (kxrSu (m+1))):=by
 refine fn_ob tt_ok mixed Try.func52 rfl (fun _ _=>by kernel_rfl) (A:=fun ds=>⟨fun _=>Cons.of [(51,kvrC),(77,(kkrC m))],fun _=>none,fun _=>none⟩) (fun _ _=>(cons_cons kvr_ok (cons_cons (kkr_ok ih) cons_nil))) (by kernel_rfl) ?_
 intro ds fr;unfold kxrSu;split
 ·rename_i ch pc vs k n v d;refine kmp (q:=SizeOf.sizeOf d<m+(1:Nat)->((k==(1:Int))=true->(decide (n>=(0:Int))&&decide (n<=(2147483647:Int))&&v==(0:Int)&&(d.len:Int)==(0:Int))=xkX vs k n v d)/\((k==(1:Int))=false->((k==(2:Int))=true->(plK v vs&&n==(0:Int)&&(d.len:Int)==(0:Int))=xkX vs k n v d)/\((k==(2:Int))=false->((k==(3:Int))=true->(((d.len:Int)==(1:Int))=true/\True->SizeOf.sizeOf d<=m)/\(((d.len:Int)==(1:Int))=true/\True->d.len<=4000000000000)/\((d.len:Int)==(1:Int)&&(allB d.len (xkE vs d)&&(n==(0:Int)&&v==(0:Int))))=xkX vs k n v d)/\((k==(3:Int))=false->((k==(4:Int))=true->((k==(4:Int))=true->(((d.len:Int)==(2:Int))=true/\True->SizeOf.sizeOf d<=m)/\(((d.len:Int)==(2:Int))=true/\True->d.len<=4000000000000)/\((d.len:Int)==(2:Int)&&(allB d.len (xkE vs d)&&(n==(0:Int)&&v==(0:Int))))=xkX vs k n v d)/\((k==(4:Int))=false->false=xkX vs k n v d))/\((k==(4:Int))=false->((k==(5:Int))=true->((k==(5:Int))=true->(((d.len:Int)==(2:Int))=true/\True->SizeOf.sizeOf d<=m)/\(((d.len:Int)==(2:Int))=true/\True->d.len<=4000000000000)/\((d.len:Int)==(2:Int)&&(allB d.len (xkE vs d)&&(n==(0:Int)&&v==(0:Int))))=xkX vs k n v d)/\((k==(5:Int))=false->false=xkX vs k n v d))/\((k==(5:Int))=false->((k==(6:Int))=true->((k==(6:Int))=true->(((d.len:Int)==(2:Int))=true/\True->SizeOf.sizeOf d<=m)/\(((d.len:Int)==(2:Int))=true/\True->d.len<=4000000000000)/\((d.len:Int)==(2:Int)&&(allB d.len (xkE vs d)&&(n==(0:Int)&&v==(0:Int))))=xkX vs k n v d)/\((k==(6:Int))=false->false=xkX vs k n v d))/\((k==(6:Int))=false->((k==(7:Int))=true->((k==(7:Int))=true->(((d.len:Int)==(2:Int))=true/\True->SizeOf.sizeOf d<=m)/\(((d.len:Int)==(2:Int))=true/\True->d.len<=4000000000000)/\((d.len:Int)==(2:Int)&&(allB d.len (xkE vs d)&&(n==(0:Int)&&v==(0:Int))))=xkX vs k n v d)/\((k==(7:Int))=false->false=xkX vs k n v d))/\((k==(7:Int))=false->((k==(8:Int))=true->(((d.len:Int)==(2:Int))=true/\True->SizeOf.sizeOf d<=m)/\(((d.len:Int)==(2:Int))=true/\True->d.len<=4000000000000)/\((d.len:Int)==(2:Int)&&(allB d.len (xkE vs d)&&(n==(0:Int)&&v==(0:Int))))=xkX vs k n v d)/\((k==(8:Int))=false->false=xkX vs k n v d))))))))) (by kernel_rfl) ?_
  intro hm;have ob:((d.len:Int)==2)=true/\True->d.len<=4000000000000:=fun h=>by have:=h.1;simp only [beq_iff_eq] at this;omega
  have oa:((d.len:Int)==1)=true/\True->d.len<=4000000000000:=fun h=>by have:=h.1;simp only [beq_iff_eq] at this;omega
  have om:SizeOf.sizeOf d<=m:=by omega
  have b4:∀ {k:Int} (j:Int),4<=j->j<=8->(k==j)=true->biB k=true:=fun j h1 h2 h=>by
   rw [eq_of_beq h];unfold biB;rw [decide_eq_true h1,decide_eq_true h2];rfl
  refine ⟨fun h=>?_,fun h1=>⟨fun h=>?_,fun h2=>⟨fun h=>⟨fun _=>om,oa,xk_1 (eq_of_beq h)⟩,fun h3=>?_⟩⟩⟩
  ·obtain rfl:=eq_of_beq h;rfl
  ·obtain rfl:=eq_of_beq h;rfl
  refine ⟨fun h=>⟨fun _=>⟨fun _=>om,ob,xk_2 (b4 4 (by decide) (by decide) h)⟩,fun q=>by rw [h] at q;cases q⟩,fun h4=>?_⟩;refine ⟨fun h=>⟨fun _=>⟨fun _=>om,ob,xk_2 (b4 5 (by decide) (by decide) h)⟩,fun q=>by rw [h] at q;cases q⟩,fun h5=>?_⟩;refine ⟨fun h=>⟨fun _=>⟨fun _=>om,ob,xk_2 (b4 6 (by decide) (by decide) h)⟩,fun q=>by rw [h] at q;cases q⟩,fun h6=>?_⟩;refine ⟨fun h=>⟨fun _=>⟨fun _=>om,ob,xk_2 (b4 7 (by decide) (by decide) h)⟩,fun q=>by rw [h] at q;cases q⟩,fun h7=>?_⟩;refine ⟨fun h=>⟨fun _=>om,ob,xk_2 (b4 8 (by decide) (by decide) h)⟩,fun h8=>?_⟩;refine (xkX_no (ne_of_beq_false h1) (ne_of_beq_false h2) (ne_of_beq_false h3) ?_).symm;have n4:=ne_of_beq_false h4;have n5:=ne_of_beq_false h5;have n6:=ne_of_beq_false h6;have n7:=ne_of_beq_false h7;have n8:=ne_of_beq_false h8;unfold biB;simp only [Bool.and_eq_false_iff,decide_eq_false_iff_not];omega
 ·trivial
theorem kxr_ok:ConOK Try.prog 52 kxrC:=
 con_rec kxrM (fun _ _=>by kernel_rfl) fun m ih=>by
  rw [kxr_under] at ih ⊢;exact kxr_step m ih
noncomputable def kcrS:FSpec:=fun ds _=>match ds with
 | [.d ch,.i pc,.i vs,.i op,.i lk,.i ln,.i lv,.d ld,.i rk,.i rn,.i rv,.d rd]=>some {val:=.one (.sc (.bool (.sym (xkC vs op lk ln lv ld rk rn rv rd)))),vc:=[]}
 |_=>none
noncomputable def kcrC:Con:=con [kIn,kCo] kcrS
theorem kcr_ok:ConOK Try.prog 54 kcrC:=by
 refine fn_ob tt_ok mixed Try.func54 rfl (fun _ _=>by kernel_rfl) (A:=fun ds=>⟨fun _=>Cons.of [(52,kxrC)],fun _=>none,fun _=>none⟩) (fun _ _=>(cons_cons kxr_ok cons_nil)) (by kernel_rfl) ?_
 intro ds fr;unfold kcrS;split
 ·rename_i ch pc vs op lk ln lv ld rk rn rv rd;refine kmp (q:=(decide (op>=(1:Int))&&decide (op<=(6:Int))&&xkX vs lk ln lv ld&&xkX vs rk rn rv rd)=xkC vs op lk ln lv ld rk rn rv rd) (by kernel_rfl) ?_
  exact rfl
 ·trivial
end Go.Proofs.Ytcfkhnlkfgmoiaa.Sx.Z
namespace Go.Proofs.Ytcfkhnlkfgmoiaa.Sx.Z
open Go.RowKit
def c4E (d:D):D:=.l ((List.finRange d.len).map fun (i:Fin d.len)=>[D.i (d.el i 0).toI,D.i (d.el i 1).toI,D.i (d.el i 2).toI,c4E (d.el i 3)])
 termination_by SizeOf.sizeOf d
 decreasing_by exact lel_lt i.isLt
def x4R (d:D) (i:Nat):List D:=[D.i (d.el i 0).toI,D.i (d.el i 1).toI,D.i (d.el i 2).toI,c4E (d.el i 3)]
theorem c4E_eq (d:D):c4E d=cpTo d.len (x4R d):=by
 rw [c4E,<- cpF_eq];rfl
def k4S (d:D):Prop:=d.len*48<=140737488355328/\∀ i:Fin d.len,k4S (d.el i 3)
 termination_by SizeOf.sizeOf d
 decreasing_by exact lel_lt i.isLt
theorem k4S_iff (d:D):k4S d↔d.len*48<=140737488355328/\∀ i,i<d.len->k4S (d.el i 3):=by
 rw [k4S];exact ⟨fun h=>⟨h.1,fun i hi=>h.2 ⟨i,hi⟩⟩,fun h=>⟨h.1,fun i=>h.2 i.1 i.2⟩⟩
def b4S (d:D):Prop:=d.len*256<=140737488355328/\∀ i:Fin d.len,k4S (d.el i 7)/\k4S (d.el i 12)/\k4S (d.el i 16)/\b4S (d.el i 17)/\b4S (d.el i 18)/\(d.el i 19).len*40<=140737488355328/\∀ j:Fin (d.el i 19).len,b4S ((d.el i 19).el j 2)
 termination_by SizeOf.sizeOf d
 decreasing_by
  ·exact lel_lt i.isLt
  ·exact lel_lt i.isLt
  ·exact Nat.lt_trans (lel_lt j.isLt) (lel_lt i.isLt)
theorem b4S_iff (d:D):b4S d↔d.len*256<=140737488355328/\∀ i,i<d.len->k4S (d.el i 7)/\k4S (d.el i 12)/\k4S (d.el i 16)/\b4S (d.el i 17)/\b4S (d.el i 18)/\(d.el i 19).len*40<=140737488355328/\∀ j,j<(d.el i 19).len->b4S ((d.el i 19).el j 2):=by
 rw [b4S];refine ⟨fun h=>⟨h.1,fun i hi=>?_⟩,fun h=>⟨h.1,fun i=>?_⟩⟩
 ·obtain ⟨a,b,c,e,f,g,k⟩:=h.2 ⟨i,hi⟩;exact ⟨a,b,c,e,f,g,fun j hj=>k ⟨j,hj⟩⟩
 ·obtain ⟨a,b,c,e,f,g,k⟩:=h.2 i.1 i.2;exact ⟨a,b,c,e,f,g,fun j=>k j.1 j.2⟩
structure Sy4 (ch pr:D):Prop where
 c:ch.len*64<=140737488355328
 r:∀ i,i<ch.len->(ch.el i 5).len*24<=140737488355328
 rr:∀ i,i<ch.len->∀ k,k<(ch.el i 5).len->((ch.el i 5).el k 0).len*8<=140737488355328
 p:pr.len*32<=140737488355328
 b:∀ i,i<pr.len->b4S (pr.el i 1)
end Go.Proofs.Ytcfkhnlkfgmoiaa.Sx.Z
namespace Go.Proofs.Ytcfkhnlkfgmoiaa.Sx.Z
open Go.RowKit
def notK (op:Int):Int:=if op=1 then 2 else if op=2 then 1 else if op=3 then 6 else if op=6 then 3 else if op=4 then 5 else if op=5 then 4 else 0
noncomputable def xcfS:FSpec:=fun ds _=>match ds with
 | [.i k,.i n,.i v,.d d]=>some {val:=.one (.agg [.c (.int .i64 (.sym (k))),.c (.int .i64 (.sym (n))),.c (.int .i64 (.sym (v))),.c (.rows 48 (c4E (d)))]),vc:=[k4S d]}
 |_=>none
noncomputable def xcfC:Con:=con [kX] xcfS
noncomputable def xcfM:List Dat->Nat:=fun ds=>match ds with
 | [.i k,.i n,.i v,.d d]=>SizeOf.sizeOf d
 |_=>0
noncomputable def xcfSu (m:Nat):FSpec:=fun ds _=>match ds with
 | [.i k,.i n,.i v,.d d]=>some {val:=.one (.agg [.c (.int .i64 (.sym (k))),.c (.int .i64 (.sym (n))),.c (.int .i64 (.sym (v))),.c (.rows 48 (c4E (d)))]),vc:=[SizeOf.sizeOf d<m,k4S d]}
 |_=>none
theorem xcf_under (m:Nat):xcfS.under xcfM m=xcfSu m:=by
 funext ds fr
 unfold FSpec.under xcfS xcfM xcfSu;split
 ·rename_i e h
  split at h
  ·obtain rfl:=Option.some.inj h;rfl
  ·cases h
 ·rename_i h
  split at h
  ·cases h
  ·rfl
theorem xcf_step (m:Nat) (ih:ConOK Try.prog 57 (con [kX] (xcfSu m))):ConOK Try.prog 57 (con [kX] (xcfSu (m+1))):=by
 refine fn_ob tt_ok mixed Try.func57 rfl (fun _ _=>by kernel_rfl) (A:=fun ds=>⟨fun _=>Cons.of [(57,con [kX] (xcfSu m))],fun k=>match k,ds with | 3,[.i k,.i n,.i v,.d d]=>some {ι:=Nat,pre:=fun _ i=>i<=d.len,μ:=fun i=>d.len+1-i,st:=fun s i=>famR s [(9,.one (.sc (.int .i64 (.sym ((i:Nat)))))),(3,.one (.sc (.osl 48 (s.nx-1) (.lit 0) (.sym (i)))))] [1,2,7,8] [(s.nx-1,.orow 48 (cpTo i (x4R d)))] [1,2]} |_,_=>none,fun _=>none⟩) (fun _ _=>(cons_cons ih cons_nil)) (by kernel_rfl) ?_
 intro ds fr;unfold xcfSu;split
 ·rename_i k n v d;refine kmp (q:=SizeOf.sizeOf d<m+(1:Nat)->k4S d->(∃ (i:Nat),i.le d.len/\(0:Int)=(i:Int)/\i=(0:Nat)/\d.rows=d.rows/\(d.len:Int)=(d.len:Int)/\List.map (x4R d) (List.range i)=[]/\k=k/\n=n/\v=v/\d.rows=d.rows/\(0:Int)=(0:Int)/\(0:Int)=(0:Int)/\(0:Int)=(0:Int))/\∀ (i:Nat),i.le d.len->(decide ((i:Int)<(d.len:Int))=true->((0:Int)<=(i:Int)/\(i:Int)<(d.len:Int))/\SizeOf.sizeOf (d.el (i:Int).toNat 3)<m/\k4S (d.el (i:Int).toNat 3)/\i=(cpTo i (x4R d)).len/\(i+((D.l [[D.i (d.el (i:Int).toNat 0).toI,D.i (d.el (i:Int).toNat 1).toI,D.i (d.el (i:Int).toNat 2).toI,c4E (d.el (i:Int).toNat 3)]]).sub (0:Nat) 1).len)*(48:Nat)<=(140737488355328:Nat)/\(0:Nat)+(1:Nat)<=(D.l [[D.i (d.el (i:Int).toNat 0).toI,D.i (d.el (i:Int).toNat 1).toI,D.i (d.el (i:Int).toNat 2).toI,c4E (d.el (i:Int).toNat 3)]]).len/\∃ (j:Nat),j.le d.len/\d.len+(1:Nat)-j<d.len+(1:Nat)-i/\IntKind.i64.wrap ((i:Int)+(1:Int))=(j:Int)/\i+((D.l [[D.i (d.el (i:Int).toNat 0).toI,D.i (d.el (i:Int).toNat 1).toI,D.i (d.el (i:Int).toNat 2).toI,c4E (d.el (i:Int).toNat 3)]]).sub (0:Nat) 1).len=j/\d.rows=d.rows/\(d.len:Int)=(d.len:Int)/\List.map (x4R d) (List.range i)++List.drop (0:Nat) (List.take 1 [[D.i (d.el (i:Int).toNat 0).toI,D.i (d.el (i:Int).toNat 1).toI,D.i (d.el (i:Int).toNat 2).toI,c4E (d.el (i:Int).toNat 3)]])=List.map (x4R d) (List.range j)/\k=k/\n=n/\v=v/\d.rows=d.rows/\(0:Int)=(0:Int)/\(0:Int)=(0:Int)/\(0:Int)=(0:Int))/\(decide ((i:Int)<(d.len:Int))=false->(0:Nat)+i<=(cpTo i (x4R d)).len/\k=k/\n=n/\v=v/\List.drop ((0:Nat)) (List.take ((0:Nat)+i) (List.map (x4R d) (List.range i)))=(c4E d).rows)) (by kernel_rfl) ?_
  intro hm hs;rw [k4S_iff] at hs;obtain ⟨h1,h2⟩:=hs;refine ⟨⟨0,Nat.zero_le _,(by (repeat' (with_reducible apply And.intro))<;>first |exact True.intro |rfl)⟩,fun i hi=>⟨fun hl=>?_,fun hl=>?_⟩⟩
  ·have hl:=of_decide_eq_true hl;have hi2:i<d.len:=by omega
   have z:=lel_lt (j:=3) hi2;refine ⟨⟨by omega,by omega⟩,(show SizeOf.sizeOf (d.el i 3)<m by omega),h2 i hi2,(cpTo_len _ _).symm,(show (i+1)*48<=140737488355328 by omega),Nat.le_refl _,i+1,hi2,by omega,k_nx (by omega),?_⟩
   (repeat' apply And.intro)<;>first |exact (cpTo_succ i (x4R d)).symm |rfl
  ·have hl:=of_decide_eq_false hl;have hi3:i=d.len:=by have:i<=d.len:=hi;omega
   subst hi3;refine ⟨by rw [cpTo_len];omega,?_⟩;rw [c4E_eq]
   (repeat' apply And.intro)<;>first |rfl |exact takeAll _ _
 ·trivial
theorem xcf_ok:ConOK Try.prog 57 xcfC:=
 con_rec xcfM (fun _ _=>by kernel_rfl) fun m ih=>by
  rw [xcf_under] at ih ⊢;exact xcf_step m ih
noncomputable def ccfS:FSpec:=fun ds _=>match ds with
 | [.i op,.i lk,.i ln,.i lv,.d ld,.i rk,.i rn,.i rv,.d rd]=>some {val:=.one (.agg [.c (.int .i64 (.sym (op))),.c (.int .i64 (.sym (lk))),.c (.int .i64 (.sym (ln))),.c (.int .i64 (.sym (lv))),.c (.rows 48 (c4E (ld))),.c (.int .i64 (.sym (rk))),.c (.int .i64 (.sym (rn))),.c (.int .i64 (.sym (rv))),.c (.rows 48 (c4E (rd)))]),vc:=[k4S ld,k4S rd]}
 |_=>none
noncomputable def ccfC:Con:=con [kCo] ccfS
theorem ccf_ok:ConOK Try.prog 59 ccfC:=by
 refine fn_ob tt_ok mixed Try.func59 rfl (fun _ _=>by kernel_rfl) (A:=fun ds=>⟨fun _=>Cons.of [(57,xcfC)],fun _=>none,fun _=>none⟩) (fun _ _=>(cons_cons xcf_ok cons_nil)) (by kernel_rfl) ?_
 intro ds fr;unfold ccfS;split
 ·rename_i op lk ln lv ld rk rn rv rd;refine kmp (q:=k4S ld->k4S rd->k4S ld/\k4S rd/\op=op/\lk=lk/\ln=ln/\lv=lv/\(c4E ld).rows=(c4E ld).rows/\rk=rk/\rn=rn/\rv=rv/\(c4E rd).rows=(c4E rd).rows) (by kernel_rfl) ?_
  intro h1 h2;exact ⟨h1,h2,(by (repeat' (with_reducible apply And.intro))<;>first |exact True.intro |rfl)⟩
 ·trivial
noncomputable def fntS:FSpec:=fun ds _=>match ds with
 | [.i op]=>some {val:=.one (.sc (.int .i64 (.sym (notK op)))),vc:=[]}
 |_=>none
noncomputable def fntC:Con:=con [lI] fntS
theorem fnt_ok:ConOK Try.prog 18 fntC:=by
 refine fn_ob tt_ok mixed Try.func18 rfl (fun _ _=>by kernel_rfl) (A:=fun ds=>⟨fun _=>Cons.of [],fun _=>none,fun _=>none⟩) (fun _ _=>cons_nil) (by kernel_rfl) ?_
 intro ds fr;unfold fntS;split
 ·rename_i op;refine kmp (q:=((op==(1:Int))=true->(2:Int)=notK op)/\((op==(1:Int))=false->((op==(2:Int))=true->(1:Int)=notK op)/\((op==(2:Int))=false->((op==(3:Int))=true->(6:Int)=notK op)/\((op==(3:Int))=false->((op==(6:Int))=true->(3:Int)=notK op)/\((op==(6:Int))=false->((op==(4:Int))=true->(5:Int)=notK op)/\((op==(4:Int))=false->((op==(5:Int))=true->(4:Int)=notK op)/\((op==(5:Int))=false->(0:Int)=notK op))))))) (by kernel_rfl) ?_
  unfold notK
  grind
 ·trivial
noncomputable def opfS:FSpec:=fun ds _=>match ds with
 | [.i op,.i lk,.i ln,.i lv,.d ld,.i rk,.i rn,.i rv,.d rd]=>some {val:=.one (.agg [.c (.int .i64 (.sym (notK op))),.c (.int .i64 (.sym (lk))),.c (.int .i64 (.sym (ln))),.c (.int .i64 (.sym (lv))),.c (.rows 48 (c4E (ld))),.c (.int .i64 (.sym (rk))),.c (.int .i64 (.sym (rn))),.c (.int .i64 (.sym (rv))),.c (.rows 48 (c4E (rd)))]),vc:=[k4S ld,k4S rd]}
 |_=>none
noncomputable def opfC:Con:=con [kCo] opfS
theorem opf_ok:ConOK Try.prog 60 opfC:=by
 refine fn_ob tt_ok mixed Try.func60 rfl (fun _ _=>by kernel_rfl) (A:=fun ds=>⟨fun _=>Cons.of [(59,ccfC),(18,fntC)],fun _=>none,fun _=>none⟩) (fun _ _=>(cons_cons ccf_ok (cons_cons fnt_ok cons_nil))) (by kernel_rfl) ?_
 intro ds fr;unfold opfS;split
 ·rename_i op lk ln lv ld rk rn rv rd;refine kmp (q:=k4S ld->k4S rd->k4S ld/\k4S rd/\notK op=notK op/\lk=lk/\ln=ln/\lv=lv/\(c4E ld).rows=(c4E ld).rows/\rk=rk/\rn=rn/\rv=rv/\(c4E rd).rows=(c4E rd).rows) (by kernel_rfl) ?_
  intro h1 h2;exact ⟨h1,h2,(by (repeat' (with_reducible apply And.intro))<;>first |exact True.intro |rfl)⟩
 ·trivial
end Go.Proofs.Ytcfkhnlkfgmoiaa.Sx.Z
namespace Go.Proofs.Ytcfkhnlkfgmoiaa.Sx.Z
open Go.RowKit
structure LS where
 n:Int
 e:D
 h:D
def apR (d:D) (r:List D):D:=.l (d.rows++[r])
theorem apR_len (d:D) (r:List D):(apR d r).len=d.len+1:=by
 show (d.rows++[r]).length=_;rw [List.length_append];rfl
def LS.edge (s:LS) (r:List D):LS:=⟨s.n,apR s.e r,s.h⟩
def LS.node (s:LS):LS:=⟨s.n+1,s.e,s.h⟩
def LS.head (s:LS) (x:Int):LS:=⟨s.n,s.e,apR s.h [D.i x]⟩
def LS.full (s:LS):Bool:=decide ((s.e.len:Int)>400)
def eK (f t:Int):List D:=[D.i f,D.i t,D.i 0,D.i 0,D.i 0,D.i 0,D.i 0,D.i 0,D.i 0,D.l [],D.i 0,D.i 0,D.i 0,D.i 0,D.l [],D.i 0,D.i 0,D.i 0,D.l []]
def eA (f t v ek en ev:Int) (ed:D):List D:=[D.i f,D.i t,D.i 1,D.i v,D.i 0,D.i 0,D.i ek,D.i en,D.i ev,c4E ed,D.i 0,D.i 0,D.i 0,D.i 0,D.l [],D.i 0,D.i 0,D.i 0,D.l []]
def eC (f t k op lk ln lv:Int) (ld:D) (rk rn rv:Int) (rd:D):List D:=[D.i f,D.i t,D.i k,D.i 0,D.i 0,D.i 0,D.i 0,D.i 0,D.i 0,D.l [],D.i op,D.i lk,D.i ln,D.i lv,c4E ld,D.i rk,D.i rn,D.i rv,c4E rd]
def eS (f t c tg ek en ev:Int) (ed:D):List D:=[D.i f,D.i t,D.i 3,D.i 0,D.i c,D.i tg,D.i ek,D.i en,D.i ev,c4E ed,D.i 0,D.i 0,D.i 0,D.i 0,D.l [],D.i 0,D.i 0,D.i 0,D.l []]
def eV (f t c tg v:Int):List D:=[D.i f,D.i t,D.i 4,D.i v,D.i c,D.i tg,D.i 0,D.i 0,D.i 0,D.l [],D.i 0,D.i 0,D.i 0,D.i 0,D.l [],D.i 0,D.i 0,D.i 0,D.l []]
def eI (f t v:Int):List D:=[D.i f,D.i t,D.i 6,D.i v,D.i 0,D.i 0,D.i 0,D.i 0,D.i 0,D.l [],D.i 0,D.i 0,D.i 0,D.i 0,D.l [],D.i 0,D.i 0,D.i 0,D.l []]
def lyS (k v c tg ek en ev:Int) (ed:D) (op lk ln lv:Int) (ld:D) (rk rn rv:Int) (rd:D) (bB eB aB:Int->Int->LS->LS) (f t:Int) (s:LS):LS:=
 if k=1 then s.edge (eA f t v ek en ev ed)
 else if k=2 then eB (bB s.n t (s.node.edge (eC f s.n 2 op lk ln lv ld rk rn rv rd))).n t ((bB s.n t (s.node.edge (eC f s.n 2 op lk ln lv ld rk rn rv rd))).node.edge (eC f (bB s.n t (s.node.edge (eC f s.n 2 op lk ln lv ld rk rn rv rd))).n 2 (notK op) lk ln lv ld rk rn rv rd))
 else if k=3 then bB s.n f (((s.head f).node.edge (eC f s.n 2 op lk ln lv ld rk rn rv rd)).edge (eC f t 2 (notK op) lk ln lv ld rk rn rv rd))
 else if k=4 then s.edge (eS f t c tg ek en ev ed)
 else if k=5 then aB f t s
 else if k=6 then s.edge (eC f t 5 op lk ln lv ld rk rn rv rd)
 else if k=7 then s.edge (eI f t v) else s
def itN {α:Type} (g:Nat -> α -> α):Nat -> α -> α
 | 0,q=>q
 |n+1,q=>g n (itN g n q)
theorem itN_fin {α:Type} (g:Nat -> α -> α) (n:Nat) (x : α):(List.finRange n).foldl (fun a i=>g i.1 a) x=itN g n x:=by
 have h1:(List.finRange n).foldl (fun a i=>g i.1 a) x=((List.finRange n).map fun i=>i.1).foldl (fun a i=>g i a) x:=by rw [List.foldl_map]
 have h2:((List.finRange n).map fun i=>i.1)=List.range n:=by
  apply List.ext_getElem
  ·simp
  ·intro i h1 h2
   simp
 rw [h1,h2];clear h1 h2
 induction n with
 |zero=>rfl
 |succ n ih=>rw [List.range_succ,List.foldl_append,ih];rfl
def toN (len i:Nat) (t:Int) (s:LS):Int:=if (i:Int)<(len:Int)-1 then s.n else t
def nxN (len i:Nat) (s:LS):LS:=if (i:Int)<(len:Int)-1 then s.node else s
def lyB (d:D) (f t:Int) (s:LS):LS:=
 if d.len=0 then s.edge (eK f t) else
 ((List.finRange d.len).foldl (fun (q:LS × Int) (i:Fin d.len)=>if q.1.full=true then q else
   (lyS (d.el i 0).toI (d.el i 1).toI (d.el i 2).toI (d.el i 3).toI (d.el i 4).toI (d.el i 5).toI (d.el i 6).toI (d.el i 7) (d.el i 8).toI (d.el i 9).toI (d.el i 10).toI (d.el i 11).toI (d.el i 12) (d.el i 13).toI (d.el i 14).toI (d.el i 15).toI (d.el i 16) (fun a b s=>lyB (d.el i 17) a b s) (fun a b s=>lyB (d.el i 18) a b s)
     (fun a b s=>(List.finRange (d.el i 19).len).foldl (fun (s:LS) (j:Fin (d.el i 19).len)=>lyB ((d.el i 19).el j 2) s.n b (s.node.edge (eV a s.n (d.el i 2).toI ((d.el i 19).el j 0).toI ((d.el i 19).el j 1).toI))) s)
     q.2 (toN d.len i t q.1) (nxN d.len i q.1),toN d.len i t q.1)) (s,f)).1
 termination_by SizeOf.sizeOf d
 decreasing_by
  ·exact lel_lt i.isLt
  ·exact lel_lt i.isLt
  ·exact Nat.lt_trans (lel_lt j.isLt) (lel_lt i.isLt)
def lyAs (c:Int) (am:D) (a b:Int) (j:Nat) (s:LS):LS:=lyB (am.el j 2) s.n b (s.node.edge (eV a s.n c (am.el j 0).toI (am.el j 1).toI))
def lyA (c:Int) (am:D) (a b:Int) (s:LS):LS:=itN (lyAs c am a b) am.len s
def lyT (k v c tg ek en ev:Int) (ed:D) (op lk ln lv:Int) (ld:D) (rk rn rv:Int) (rd bd eb am:D) (f t:Int) (s:LS):LS:=
 lyS k v c tg ek en ev ed op lk ln lv ld rk rn rv rd (lyB bd) (lyB eb) (lyA c am) f t s
def lyQ (d:D) (t:Int) (i:Nat) (q:LS × Int):LS × Int:=if q.1.full=true then q else
 (lyT (d.el i 0).toI (d.el i 1).toI (d.el i 2).toI (d.el i 3).toI (d.el i 4).toI (d.el i 5).toI (d.el i 6).toI (d.el i 7) (d.el i 8).toI (d.el i 9).toI (d.el i 10).toI (d.el i 11).toI (d.el i 12) (d.el i 13).toI (d.el i 14).toI (d.el i 15).toI (d.el i 16) (d.el i 17) (d.el i 18) (d.el i 19) q.2 (toN d.len i t q.1) (nxN d.len i q.1),toN d.len i t q.1)
theorem lyB_eq (d:D) (f t:Int) (s:LS):lyB d f t s=if d.len=0 then s.edge (eK f t) else (itN (lyQ d t) d.len (s,f)).1:=by
 rw [lyB];split
 ·rfl
 ·rw [<- itN_fin (lyQ d t)]
  congr 2
  funext q i
  unfold lyQ lyT lyA;split
  ·rfl
  ·congr 2
   funext a b s
   rw [<- itN_fin (lyAs (d.el i 2).toI (d.el i 19) a b)];rfl
theorem itN_stay {α:Type} {g:Nat -> α -> α} {x : α} {i:Nat} (h:∀ j,i<=j->g j (itN g i x)=itN g i x):∀ n,i<=n->itN g n x=itN g i x
 | 0,hn=>by obtain rfl:i=0:=by omega
            rfl
 |n+1,hn=>by
  rcases Nat.lt_or_ge i (n+1) with h1 |h1
  ·rw [itN,itN_stay h n (by omega)];exact h n (by omega)
  ·obtain rfl:i=n+1:=by omega
   rfl
def smN (f:Nat->Nat):Nat->Nat
 | 0=>0
 |n+1=>smN f n+f n
theorem smN_fin (f:Nat->Nat) (n:Nat):((List.finRange n).map fun i=>f i.1).sum=smN f n:=by
 have h2:((List.finRange n).map fun i=>f i.1)=(List.range n).map f:=by
  apply List.ext_getElem
  ·simp
  ·intro i h1 h2
   simp
 rw [h2];clear h2
 induction n with
 |zero=>rfl
 |succ n ih=>rw [List.range_succ,List.map_append,List.sum_append,ih];simp [smN]
theorem smN_le {f:Nat->Nat} {i n:Nat} (h:i<=n):smN f i<=smN f n:=by
 induction n with
 |zero=>obtain rfl:i=0:=by omega
        exact Nat.le_refl _
 |succ n ih=>
  rcases Nat.lt_or_ge i (n+1) with h1 |h1
  ·exact Nat.le_trans (ih (by omega)) (Nat.le_add_right _ _)
  ·obtain rfl:i=n+1:=by omega
   exact Nat.le_refl _
def gB (d:D):Nat:=1+((List.finRange d.len).map fun (i:Fin d.len)=>4+gB (d.el i 17)+gB (d.el i 18)+((List.finRange (d.el i 19).len).map fun (j:Fin (d.el i 19).len)=>2+gB ((d.el i 19).el j 2)).sum).sum
 termination_by SizeOf.sizeOf d
 decreasing_by
  ·exact lel_lt i.isLt
  ·exact lel_lt i.isLt
  ·exact Nat.lt_trans (lel_lt j.isLt) (lel_lt i.isLt)
def gA (am:D) (j:Nat):Nat:=2+gB (am.el j 2)
def gT (bd eb am:D):Nat:=4+gB bd+gB eb+smN (gA am) am.len
def gS (d:D) (i:Nat):Nat:=gT (d.el i 17) (d.el i 18) (d.el i 19)
theorem gB_eq (d:D):gB d=1+smN (gS d) d.len:=by
 rw [gB,<- smN_fin]
 congr 3
 funext i
 unfold gS gT;rw [<- smN_fin];rfl
structure LS.le (s u:LS) (k:Nat):Prop where
 a:s.n<=u.n
 n:u.n<=s.n+k
 e:u.e.len<=s.e.len+k
 h:u.h.len<=s.h.len+k
theorem LS.le_refl (s:LS) (k:Nat):s.le s k:=⟨Int.le_refl _,by omega,by omega,by omega⟩
theorem LS.le.le_trans {s u v:LS} {a b c:Nat} (h1:s.le u a) (h2:u.le v b) (h:a+b<=c):s.le v c:=by
 obtain ⟨a1,a2,a3,a4⟩:=h1;obtain ⟨b1,b2,b3,b4⟩:=h2;exact ⟨by omega,by omega,by omega,by omega⟩
theorem LS.le_edge (s:LS) (r:List D):s.le (s.edge r) 1:=⟨Int.le_refl _,by show s.n<=_;omega,by show (apR s.e r).len<=_;rw [apR_len];omega,by show s.h.len<=_;omega⟩
theorem LS.le_node (s:LS):s.le s.node 1:=⟨by show s.n<=s.n+1;omega,by show s.n+1<=_;omega,by show s.e.len<=_;omega,by show s.h.len<=_;omega⟩
theorem LS.le_nedge (s:LS) (r:List D):s.le (s.node.edge r) 1:=⟨by show s.n<=s.n+1;omega,by show s.n+1<=_;omega,by show (apR s.e r).len<=_;rw [apR_len];omega,by show s.h.len<=_;omega⟩
theorem LS.le_hedge (s:LS) (x:Int) (r q:List D):s.le (((s.head x).node.edge r).edge q) 2:=⟨by show s.n<=s.n+1;omega,by show s.n+1<=_;omega,by show (apR (apR s.e r) q).len<=_;rw [apR_len,apR_len];omega,by show (apR s.h [D.i x]).len<=_;rw [apR_len];omega⟩
theorem lyA_le {c:Int} {am:D} {a b:Int} (ih:∀ j,j<am.len->∀ f t s,LS.le s (lyB (am.el j 2) f t s) (gB (am.el j 2))):∀ n,n<=am.len->∀ s,LS.le s (itN (lyAs c am a b) n s) (smN (gA am) n)
 | 0,_,s=>LS.le_refl _ _
 |n+1,h,s=>by
  have h1:=lyA_le (c:=c) (a:=a) (b:=b) ih n (by omega) s;have h2:LS.le (itN (lyAs c am a b) n s) (lyAs c am a b n (itN (lyAs c am a b) n s)) (gA am n):=(LS.le_nedge _ _).le_trans (ih n (by omega) _ _ _) (by unfold gA;omega);exact h1.le_trans h2 (Nat.le_refl (smN (gA am) n+gA am n))
theorem lyT_le {k v c tg ek en ev:Int} {ed:D} {op lk ln lv:Int} {ld:D} {rk rn rv:Int} {rd bd eb am:D} (hb:∀ f t s,LS.le s (lyB bd f t s) (gB bd)) (he:∀ f t s,LS.le s (lyB eb f t s) (gB eb)) (ha:∀ j,j<am.len->∀ f t s,LS.le s (lyB (am.el j 2) f t s) (gB (am.el j 2))) (f t:Int) (s:LS):LS.le s (lyT k v c tg ek en ev ed op lk ln lv ld rk rn rv rd bd eb am f t s) (3+gB bd+gB eb+smN (gA am) am.len):=by
 unfold lyT lyS
 repeat' split
 ·exact (LS.le_edge _ _).le_trans (LS.le_refl _ 0) (by omega)
 ·exact ((LS.le_nedge _ _).le_trans (hb _ _ _) (Nat.le_refl _)).le_trans ((LS.le_nedge _ _).le_trans (he _ _ _) (Nat.le_refl _)) (by omega)
 ·exact (LS.le_hedge _ _ _ _).le_trans (hb _ _ _) (by omega)
 ·exact (LS.le_edge _ _).le_trans (LS.le_refl _ 0) (by omega)
 ·exact (lyA_le ha _ (Nat.le_refl _) s).le_trans (LS.le_refl _ 0) (by omega)
 ·exact (LS.le_edge _ _).le_trans (LS.le_refl _ 0) (by omega)
 ·exact (LS.le_edge _ _).le_trans (LS.le_refl _ 0) (by omega)
 ·exact LS.le_refl _ _
theorem nxN_le (len i:Nat) (s:LS):s.le (nxN len i s) 1:=by
 unfold nxN;split
 ·exact LS.le_node _
 ·exact LS.le_refl _ _
theorem lyQ_le {d:D} {t:Int} (ih:∀ d',SizeOf.sizeOf d'<SizeOf.sizeOf d->∀ f t s,LS.le s (lyB d' f t s) (gB d')) {i:Nat} (hi:i<d.len) (q:LS × Int):LS.le q.1 (lyQ d t i q).1 (gS d i):=by
 unfold lyQ;split
 ·exact LS.le_refl _ _
 ·have z1:=lel_lt (j:=17) hi;have z2:=lel_lt (j:=18) hi;have z3:=lel_lt (j:=19) hi;exact (nxN_le _ _ _).le_trans (lyT_le (ih _ z1) (ih _ z2) (fun j hj=>ih _ (Nat.lt_trans (lel_lt (j:=2) hj) z3)) _ _ _) (by unfold gS gT;omega)
theorem itQ_le {d:D} {t:Int} (ih:∀ d',SizeOf.sizeOf d'<SizeOf.sizeOf d->∀ f t s,LS.le s (lyB d' f t s) (gB d')) (q:LS × Int):∀ n,n<=d.len->LS.le q.1 (itN (lyQ d t) n q).1 (smN (gS d) n)
 | 0,_=>LS.le_refl _ _
 |n+1,h=>by
  have h1:=itQ_le (t:=t) ih q n (by omega);have h2:=lyQ_le (t:=t) ih (i:=n) (by omega) (itN (lyQ d t) n q);exact h1.le_trans h2 (Nat.le_refl (smN (gS d) n+gS d n))
theorem lyB_leA:∀ (m:Nat) (d:D),SizeOf.sizeOf d<m->∀ f t s,LS.le s (lyB d f t s) (gB d):=by
 intro m
 induction m with
 |zero=>intro d h;omega
 |succ m ih=>
  intro d hm f t s;rw [lyB_eq,gB_eq];split
  ·exact (LS.le_edge _ _).le_trans (LS.le_refl _ 0) (by omega)
  ·have h1:=itQ_le (d:=d) (t:=t) (fun d' h'=>ih d' (by omega)) (s,f) d.len (Nat.le_refl _);exact h1.le_trans (LS.le_refl _ 0) (by omega)
theorem lyB_le (d:D) (f t:Int) (s:LS):LS.le s (lyB d f t s) (gB d):=lyB_leA _ d (Nat.lt_succ_self _) f t s
end Go.Proofs.Ytcfkhnlkfgmoiaa.Sx.Z
namespace Go.Proofs.Ytcfkhnlkfgmoiaa.Sx.Z
open Go.RowKit
def ixF (q:Nat->Bool) (n:Nat):Int:=match (List.range n).find? q with |some i=>(i:Int) |none=>-1
theorem ixF_hit {q:Nat->Bool} {n i:Nat} (hi:i<n) (hq:q i=true) (hb:∀ j,j<i->q j=false):ixF q n=(i:Int):=by
 have:(List.range n).find? q=some i:=by
  rw [List.find?_range_eq_some];exact ⟨hq,by simpa using hi,fun j hj=>by simpa using hb j hj⟩
 unfold ixF;rw [this]
theorem ixF_no {q:Nat->Bool} {n:Nat} (h:∀ j,j<n->q j=false):ixF q n = -1:=by
 have:(List.range n).find? q=none:=by
  rw [List.find?_eq_none];intro j hj
  simpa using h j (List.mem_range.1 hj)
 unfold ixF;rw [this]
theorem ixF_or (q:Nat->Bool) (n:Nat):(∃ i,i<n/\q i=true/\(∀ j,j<i->q j=false)/\ixF q n=(i:Int)) ∨ ((∀ j,j<n->q j=false)/\ixF q n = -1):=by
 unfold ixF
 cases hf:(List.range n).find? q with
 |none=>
  rw [List.find?_eq_none] at hf;exact .inr ⟨fun j hj=>by simpa using hf j (List.mem_range.2 hj),rfl⟩
 |some i=>
  rw [List.find?_range_eq_some] at hf;exact .inl ⟨i,by simpa using hf.2.1,hf.1,fun j hj=>by simpa using hf.2.2 j hj,rfl⟩
theorem ixF_any (q:Nat->Bool) (n:Nat):decide (ixF q n>=0)=(List.range n).any q:=by
 rcases ixF_or q n with ⟨i,h1,h2,_,h3⟩ |⟨h1,h2⟩
 ·rw [h3,decide_eq_true (by omega)];exact (List.any_eq_true.2 ⟨i,List.mem_range.2 h1,h2⟩).symm
 ·rw [h2,show decide ((-1:Int)>=0)=false from rfl]
  symm
  rw [List.any_eq_false];intro j hj;rw [h1 j (List.mem_range.1 hj)]
  decide
def cAr (d:D) (i:Nat):List D:=[D.i (d.el i 0).toI,D.i (d.el i 1).toI,d.el i 2]
def arA:AP:=.agg [.c (.int .i64),.c (.int .i64),.c (.rows 55)]
def tgQ (t:Int) (l:List D):Bool:=(l.getD 0 (.i 0)).toI==t
def okK0:List D->Prop:=fun _=>True
noncomputable def ixrS:FSpec:=fun ds _=>match ds with
 | [.d d,.q p ok]=>some {val:=.one (.sc (.int .i64 (.sym (ixF (fun i=>p (cAr d i)) d.len)))),vc:=[d.len<=4000000000000,∀ i,i<d.len->ok (cAr d i)]}
 |_=>none
noncomputable def ixrC:Con:=con [.sc (.rows 105),.sc (.fn true 105)] ixrS
theorem ixr_ok:ConOK Try.prog 96 ixrC:=by
 refine fn_ob tt_ok mixed Try.func96 rfl (fun _ _=>by kernel_rfl) (A:=fun ds=>⟨fun _=>Cons.of [],fun k=>match k,ds with | 2,[.d d,.q p ok]=>some {ι:=Nat,pre:=fun _ i=>i<=d.len/\∀ j,j<i->p (cAr d j)=false,μ:=fun i=>d.len-i,st:=fun s i=>famR s [(8,.one (.sc (.int .i64 (.sym ((i:Int))))))] [0,1,7] [] []} |_,_=>none,fun _=>none⟩) (fun _ _=>cons_nil) (by kernel_rfl) ?_
 intro ds fr;unfold ixrS;split
 ·rename_i d p ok;refine kmp (q:=d.len<=4000000000000->(∀ (i:Nat),i<d.len->ok (cAr d i))->(∃ (i:Nat),(i<=d.len/\∀ (j:Nat),j<i->p (cAr d j)=false)/\(0:Int)=(i:Int)/\d.rows=d.rows/\p=p/\ok=ok/\(d.len:Int)=(d.len:Int))/\∀ (i:Nat),(i<=d.len/\∀ (j:Nat),j<i->p (cAr d j)=false)->(decide ((i:Int)<(d.len:Int))=true->((0:Int)<=(i:Int)/\(i:Int)<(d.len:Int))/\ok [D.i (d.el (i:Int).toNat 0).toI,D.i (d.el (i:Int).toNat 1).toI,d.el (i:Int).toNat 2]/\(p [D.i (d.el (i:Int).toNat 0).toI,D.i (d.el (i:Int).toNat 1).toI,d.el (i:Int).toNat 2]=true->(i:Int)=ixF (fun (i:Nat)=>p (cAr d i)) d.len)/\(p [D.i (d.el (i:Int).toNat 0).toI,D.i (d.el (i:Int).toNat 1).toI,d.el (i:Int).toNat 2]=false->∃ (j:Nat),(j<=d.len/\∀ (j_1:Nat),j_1<j->p (cAr d j_1)=false)/\d.len-j<d.len-i/\IntKind.i64.wrap ((i:Int)+(1:Int))=(j:Int)/\d.rows=d.rows/\p=p/\ok=ok/\(d.len:Int)=(d.len:Int)))/\(decide ((i:Int)<(d.len:Int))=false->(-1:Int)=ixF (fun (i:Nat)=>p (cAr d i)) d.len)) (by kernel_rfl) ?_
  intro hc ho;have e0:∀ (i:Nat),((i:Int)).toNat=i:=fun i=>Int.toNat_natCast i
  refine ⟨⟨0,⟨Nat.zero_le _,fun j hj=>absurd hj (Nat.not_lt_zero j)⟩,rfl,rfl,rfl,rfl,rfl⟩,fun i hp=>⟨fun hl=>?_,fun hl=>?_⟩⟩
  ·have hi:i<d.len:=by have:=of_decide_eq_true hl;omega
   refine ⟨⟨by omega,by omega⟩,by simp only [e0];exact ho i hi,fun hq=>?_,fun hq=>?_⟩
   ·simp only [e0] at hq;exact (ixF_hit hi hq hp.2).symm
   ·simp only [e0] at hq;have hw:IntKind.i64.wrap ((i:Int)+1)=((i+1:Nat):Int):=by rw [IntWalk.i64_in _ (by omega)];omega
    refine ⟨i+1,⟨by omega,fun j hj=>?_⟩,by omega,hw,rfl,rfl,rfl,rfl⟩
    rcases Nat.lt_or_ge j i with h |h
    ·exact hp.2 j h
    ·obtain rfl:j=i:=by omega
     exact hq
  ·have hi:¬ i<d.len:=by have:=of_decide_eq_false hl;omega
   exact (ixF_no fun j hj=>hp.2 j (by omega)).symm
 ·trivial
noncomputable def cfrS:FSpec:=fun ds _=>match ds with
 | [.d d,.q p ok]=>some {val:=.one (.sc (.bool (.sym ((List.range d.len).any fun i=>p (cAr d i))))),vc:=[d.len<=4000000000000,∀ i,i<d.len->ok (cAr d i)]}
 |_=>none
noncomputable def cfrC:Con:=con [.sc (.rows 105),.sc (.fn true 105)] cfrS
theorem cfr_ok:ConOK Try.prog 90 cfrC:=by
 refine fn_ob tt_ok mixed Try.func90 rfl (fun _ _=>by kernel_rfl) (A:=fun ds=>⟨fun _=>Cons.of [(96,ixrC)],fun _=>none,fun _=>none⟩) (fun _ _=>(cons_cons ixr_ok cons_nil)) (by kernel_rfl) ?_
 intro ds fr;unfold cfrS;split
 ·rename_i d p ok;refine kmp (q:=d.len<=4000000000000->(∀ (i:Nat),i<d.len->ok (cAr d i))->d.len<=4000000000000/\(∀ (i:Nat),i<d.len->ok (cAr d i))/\decide (ixF (fun (i:Nat)=>p (cAr d i)) d.len>=(0:Int))=(List.range d.len).any fun (i:Nat)=>p (cAr d i)) (by kernel_rfl) ?_
  intro hc ho;exact ⟨hc,ho,(ixF_any _ _)⟩
 ·trivial
noncomputable def tu1S:FSpec:=fun ds _=>match ds with
 | [.i g,.i w,.d b,.i t]=>some {val:=.one (.sc (.bool (.sym (g==t)))),vc:=[]}
 |_=>none
noncomputable def tu1C:Con:=con [arA,.sc (.pt (.int .i64))] tu1S
theorem tu1_ok:ConOK Try.prog 91 tu1C:=by
 refine fn_ob tt_ok mixed Try.func91 rfl (fun _ _=>by kernel_rfl) (A:=fun ds=>⟨fun _=>Cons.of [],fun _=>none,fun _=>none⟩) (fun _ _=>cons_nil) (by kernel_rfl) ?_
 intro ds fr;unfold tu1S;split
 ·rename_i g w b t;refine kmp (q:=(g==t)=(g==t)) (by kernel_rfl) ?_
  rfl
 ·trivial
def tu1F:FC:=⟨.int .i64,true,105,fun d=>match d with | .i a=>some (tgQ a,okK0) |_=>none⟩
noncomputable def tu1K:Con:=conF tu1F tu1C
theorem tu1K_ok:ConOK Try.prog 91 tu1K:=
 conF_ok tu1_ok (fc_ok (ks:=eks 105) rfl rfl (fun h=>by cases h) tu1_ok rfl fun d q h l _=>by
  cases d with
  |i a=>
   obtain rfl:=Option.some.inj h;exact ⟨_,rfl,trivial⟩
  |_=>cases h)
noncomputable def ktuS:FSpec:=fun ds _=>match ds with
 | [.d d,.i t]=>some {val:=.one (.sc (.bool (.sym (tgU d d.len t)))),vc:=[d.len<=4000000000000]}
 |_=>none
noncomputable def ktuC:Con:=con [.sc (.rows 105),lI] ktuS
theorem ktu_ok:ConOK Try.prog 79 ktuC:=by
 refine fn_ob tt_ok mixed Try.func79 rfl (fun _ _=>by kernel_rfl) (A:=fun ds=>⟨fun _=>Cons.of [(91,tu1K),(90,cfrC)],fun _=>none,fun _=>none⟩) (fun _ _=>(cons_cons tu1K_ok (cons_cons cfr_ok cons_nil))) (by kernel_rfl) ?_
 intro ds fr;unfold ktuS;split
 ·rename_i d t;refine kmp (q:=d.len<=4000000000000->d.len<=4000000000000/\(∀ (i:Nat),i<d.len->okK0 (cAr d i))/\((List.range d.len).any fun (i:Nat)=>tgQ t (cAr d i))=tgU d d.len t) (by kernel_rfl) ?_
  intro h;exact ⟨h,fun _ _=>trivial,rfl⟩
 ·trivial
theorem tgU_sub {am:D} {n:Nat} (h:n<=am.len) (t:Int):tgU (am.sub 0 n) (am.sub 0 n).len t=tgU am n t:=by
 rw [D.sub_len am h,Nat.sub_zero];unfold tgU;rw [Bool.eq_iff_iff,List.any_eq_true,List.any_eq_true];constructor
 ·rintro ⟨j,h1,h2⟩;refine ⟨j,h1,?_⟩;have hj:=List.mem_range.1 h1;rw [D.sub_el am (by omega),Nat.zero_add] at h2;exact h2
 ·rintro ⟨j,h1,h2⟩;refine ⟨j,h1,?_⟩;have hj:=List.mem_range.1 h1;rw [D.sub_el am (by omega),Nat.zero_add];exact h2
end Go.Proofs.Ytcfkhnlkfgmoiaa.Sx.Z
namespace Go.Proofs.Ytcfkhnlkfgmoiaa.Sx.Z
open Go.RowKit
def kBo:AP:=.sc (.rows 55)
theorem rvK_eq (ch:D) (pc vs c:Int) (am:D):rvK ch pc vs c am=(!(!plK c ch.len ||(ch.el c.toNat 3).toI != pc ||(am.len:Int)==0)&&allB am.len (arK ch pc vs (ch.el c.toNat 4).toI am)):=by
 unfold rvK bne
 cases plK c ch.len<;>cases ((ch.el c.toNat 3).toI==pc)<;>cases ((am.len:Int)==0)<;>rfl
theorem arK_eq (ch:D) (pc vs ts:Int) (am:D) (j:Nat):arK ch pc vs ts am j = !(!plK (am.el j 0).toI ts ||tgU am j (am.el j 0).toI || !plK (am.el j 1).toI vs || !bkR ch pc vs (am.el j 2)):=by
 unfold arK
 cases plK (am.el j 0).toI ts<;>cases tgU am j (am.el j 0).toI<;>cases plK (am.el j 1).toI vs<;>cases bkR ch pc vs (am.el j 2)<;>rfl
section
variable {vs v c t:Int} {e ne cr nc sd b el ar:Bool} {bl ell al:Int}
theorem skF_1:skF vs 1 v c t e ne cr nc sd b el ar bl ell al=(plK v vs&&e&&c==0&&t==0&&nc&&bl==0&&ell==0&&al==0):=rfl
theorem skF_2:skF vs 2 v c t e ne cr nc sd b el ar bl ell al=(cr&&b&&el&&v==0&&c==0&&t==0&&ne&&al==0):=rfl
theorem skF_3:skF vs 3 v c t e ne cr nc sd b el ar bl ell al=(cr&&b&&v==0&&c==0&&t==0&&ne&&ell==0&&al==0):=rfl
theorem skF_4:skF vs 4 v c t e ne cr nc sd b el ar bl ell al=(sd&&e&&v==0&&nc&&bl==0&&ell==0&&al==0):=rfl
theorem skF_5:skF vs 5 v c t e ne cr nc sd b el ar bl ell al=(ar&&v==0&&t==0&&ne&&nc&&bl==0&&ell==0):=rfl
theorem skF_6:skF vs 6 v c t e ne cr nc sd b el ar bl ell al=(cr&&v==0&&c==0&&t==0&&ne&&bl==0&&ell==0&&al==0):=rfl
theorem skF_7:skF vs 7 v c t e ne cr nc sd b el ar bl ell al=(plK v vs&&c==0&&t==0&&ne&&nc&&bl==0&&ell==0&&al==0):=rfl
theorem skF_no {k:Int} (h1:k≠1) (h2:k≠2) (h3:k≠3) (h4:k≠4) (h5:k≠5) (h6:k≠6) (h7:k≠7):skF vs k v c t e ne cr nc sd b el ar bl ell al=false:=by
 unfold skF;rw [if_neg h1,if_neg h2,if_neg h3,if_neg h4,if_neg h5,if_neg h6,if_neg h7]
end
theorem k_z0:((0:Int)==0)=true:=rfl
theorem k_zN:xkN 0 0 0 ((D.l []).len:Int)=true:=rfl
theorem k_zL:(((D.l []).len:Int)==0)=true:=rfl
noncomputable def ksdS:FSpec:=fun ds _=>match ds with
 | [.d ch,.i pc,.i vs,.i k,.i v,.i c,.i t,.i ek,.i en,.i ev,.d ed,.i op,.i lk,.i ln,.i lv,.d ld,.i rk,.i rn,.i rv,.d rd,.d bd,.d eb,.d am]=>some {val:=.one (.sc (.bool (.sym (skD ch pc c t)))),vc:=[]}
 |_=>none
noncomputable def ksdC:Con:=con [kIn,kSt] ksdS
theorem ksd_ok:ConOK Try.prog 55 ksdC:=by
 refine fn_ob tt_ok mixed Try.func55 rfl (fun _ _=>by kernel_rfl) (A:=fun ds=>⟨fun _=>Cons.of [(32,kplC)],fun _=>none,fun _=>none⟩) (fun _ _=>(cons_cons kpl_ok cons_nil)) (by kernel_rfl) ?_
 intro ds fr;unfold ksdS;split
 ·rename_i ch pc vs k v c t ek en ev ed op lk ln lv ld rk rn rv rd bd eb am;refine @kmp _ ((plK c (ch.len:Int)=true/\True->(0:Int)<=c/\c<(ch.len:Int))/\((plK c (ch.len:Int)&&(ch.el c.toNat ((0:Nat)+(2:Nat))).toI==pc)=true/\True->(0:Int)<=c/\c<(ch.len:Int))/\(plK c (ch.len:Int)&&(ch.el c.toNat ((0:Nat)+(2:Nat))).toI==pc&&plK t (ch.el c.toNat ((0:Nat)+(4:Nat))).toI)=skD ch pc c t) (by kernel_rfl) ?_
  (try simp only [Nat.reduceAdd,Nat.zero_add])
  refine ⟨fun h=>plK_iff.1 h.1,fun h=>plK_iff.1 ?_,rfl⟩;have:=h.1;simp only [Bool.and_eq_true] at this;exact this.1
 ·trivial
noncomputable def kbdS:FSpec:=fun ds _=>match ds with
 | [.d ch,.i pc,.i vs,.d d]=>some {val:=.one (.sc (.bool (.sym (bkR ch pc vs d)))),vc:=[kOK d]}
 |_=>none
noncomputable def kbdC:Con:=con [kIn,kBo] kbdS
noncomputable def kbdM:List Dat->Nat:=fun ds=>match ds with
 | [.d ch,.i pc,.i vs,.d d]=>SizeOf.sizeOf d
 |_=>0
noncomputable def kbdSu (m:Nat):FSpec:=fun ds _=>match ds with
 | [.d ch,.i pc,.i vs,.d d]=>some {val:=.one (.sc (.bool (.sym (bkR ch pc vs d)))),vc:=[SizeOf.sizeOf d<m,kOK d]}
 |_=>none
theorem kbd_under (m:Nat):kbdS.under kbdM m=kbdSu m:=by
 funext ds fr
 unfold FSpec.under kbdS kbdM kbdSu;split
 ·rename_i e h
  split at h
  ·obtain rfl:=Option.some.inj h;rfl
  ·cases h
 ·rename_i h
  split at h
  ·cases h
  ·rfl
noncomputable def krvS (m:Nat):FSpec:=fun ds _=>match ds with
 | [.d ch,.i pc,.i vs,.i k,.i v,.i c,.i t,.i ek,.i en,.i ev,.d ed,.i op,.i lk,.i ln,.i lv,.d ld,.i rk,.i rn,.i rv,.d rd,.d bd,.d eb,.d am]=>some {val:=.one (.sc (.bool (.sym (rvK ch pc vs c am)))),vc:=[SizeOf.sizeOf am<m,amK am]}
 |_=>none
noncomputable def krvC (m:Nat):Con:=con [kIn,kSt] (krvS m)
theorem krv_ok {m:Nat} (ih:ConOK Try.prog 21 (con [kIn,kBo] (kbdSu m))):ConOK Try.prog 56 (krvC m):=by
 refine fn_ob tt_ok mixed Try.func56 rfl (fun _ _=>by kernel_rfl) (A:=fun ds=>⟨fun _=>Cons.of [(32,kplC),(79,ktuC),(51,kvrC),(21,con [kIn,kBo] (kbdSu m))],fun k=>match k,ds with | 4,[.d ch,.i pc,.i vs,.i k,.i v,.i c,.i t,.i ek,.i en,.i ev,.d ed,.i op,.i lk,.i ln,.i lv,.d ld,.i rk,.i rn,.i rv,.d rd,.d bd,.d eb,.d am]=>some {ι:=Nat,pre:=fun _ i=>i<=am.len/\(plK c ch.len=true/\(ch.el c.toNat 3).toI=pc/\∀ j,j<i->arK ch pc vs (ch.el c.toNat 4).toI am j=true),μ:=fun i=>am.len+1-i,st:=fun s i=>famR s [(35,.one (.sc (.int .i64 (.sym ((i:Nat))))))] [2,3,33,34] [] [2,3]} |_,_=>none,fun _=>none⟩) (fun _ _=>(cons_cons kpl_ok (cons_cons ktu_ok (cons_cons kvr_ok (cons_cons ih cons_nil))))) (by kernel_rfl) ?_
 intro ds fr;unfold krvS;split
 ·rename_i ch pc vs k v c t ek en ev ed op lk ln lv ld rk rn rv rd bd eb am;refine @kmp _ (SizeOf.sizeOf am<m->amK am->((!plK c (ch.len:Int))=false/\True->(0:Int)<=c/\c<(ch.len:Int))/\((!plK c (ch.len:Int) ||(ch.el c.toNat ((0:Nat)+(3:Nat))).toI != pc ||(am.len:Int)==(0:Int))=true->false=rvK ch pc vs c am)/\((!plK c (ch.len:Int) ||(ch.el c.toNat ((0:Nat)+(3:Nat))).toI != pc ||(am.len:Int)==(0:Int))=false->(∃ (i:Nat),(i<=am.len/\plK c (ch.len:Int)=true/\(ch.el c.toNat 3).toI=pc/\∀ (j:Nat),j<i->arK ch pc vs (ch.el c.toNat 4).toI am j=true)/\(0:Int)=(i:Int)/\am.rows=am.rows/\(am.len:Int)=(am.len:Int)/\ch.rows=ch.rows/\pc=pc/\vs=vs/\k=k/\v=v/\c=c/\t=t/\ek=ek/\en=en/\ev=ev/\ed.rows=ed.rows/\op=op/\lk=lk/\ln=ln/\lv=lv/\ld.rows=ld.rows/\rk=rk/\rn=rn/\rv=rv/\rd.rows=rd.rows/\bd.rows=bd.rows/\eb.rows=eb.rows/\am.rows=am.rows)/\∀ (i:Nat),(i<=am.len/\plK c (ch.len:Int)=true/\(ch.el c.toNat 3).toI=pc/\∀ (j:Nat),j<i->arK ch pc vs (ch.el c.toNat 4).toI am j=true)->(decide ((i:Int)<(am.len:Int))=true->((0:Int)<=(i:Int)/\(i:Int)<(am.len:Int))/\((0:Int)<=c/\c<(ch.len:Int))/\((!plK (am.el (i:Int).toNat 0).toI (ch.el c.toNat ((0:Nat)+(4:Nat))).toI)=false/\True->(0:Int)<=(i:Int)/\(i:Int)<=(am.len:Int))/\((!plK (am.el (i:Int).toNat 0).toI (ch.el c.toNat ((0:Nat)+(4:Nat))).toI)=false/\True->(am.sub (0:Nat) (i:Int).toNat).len<=4000000000000)/\((!plK (am.el (i:Int).toNat 0).toI (ch.el c.toNat ((0:Nat)+(4:Nat))).toI ||tgU (am.sub (0:Nat) (i:Int).toNat) (am.sub (0:Nat) (i:Int).toNat).len (am.el (i:Int).toNat 0).toI || !plK (am.el (i:Int).toNat 1).toI vs)=false/\True->SizeOf.sizeOf (am.el (i:Int).toNat 2)<m)/\((!plK (am.el (i:Int).toNat 0).toI (ch.el c.toNat ((0:Nat)+(4:Nat))).toI ||tgU (am.sub (0:Nat) (i:Int).toNat) (am.sub (0:Nat) (i:Int).toNat).len (am.el (i:Int).toNat 0).toI || !plK (am.el (i:Int).toNat 1).toI vs)=false/\True->kOK (am.el (i:Int).toNat 2))/\((!plK (am.el (i:Int).toNat 0).toI (ch.el c.toNat ((0:Nat)+(4:Nat))).toI ||tgU (am.sub (0:Nat) (i:Int).toNat) (am.sub (0:Nat) (i:Int).toNat).len (am.el (i:Int).toNat 0).toI || !plK (am.el (i:Int).toNat 1).toI vs || !bkR ch pc vs (am.el (i:Int).toNat 2))=true->false=rvK ch pc vs c am)/\((!plK (am.el (i:Int).toNat 0).toI (ch.el c.toNat ((0:Nat)+(4:Nat))).toI ||tgU (am.sub (0:Nat) (i:Int).toNat) (am.sub (0:Nat) (i:Int).toNat).len (am.el (i:Int).toNat 0).toI || !plK (am.el (i:Int).toNat 1).toI vs || !bkR ch pc vs (am.el (i:Int).toNat 2))=false->∃ (j:Nat),(j<=am.len/\plK c (ch.len:Int)=true/\(ch.el c.toNat 3).toI=pc/\∀ (j_1:Nat),j_1<j->arK ch pc vs (ch.el c.toNat 4).toI am j_1=true)/\am.len+(1:Nat)-j<am.len+(1:Nat)-i/\IntKind.i64.wrap ((i:Int)+(1:Int))=(j:Int)/\am.rows=am.rows/\(am.len:Int)=(am.len:Int)/\ch.rows=ch.rows/\pc=pc/\vs=vs/\k=k/\v=v/\c=c/\t=t/\ek=ek/\en=en/\ev=ev/\ed.rows=ed.rows/\op=op/\lk=lk/\ln=ln/\lv=lv/\ld.rows=ld.rows/\rk=rk/\rn=rn/\rv=rv/\rd.rows=rd.rows/\bd.rows=bd.rows/\eb.rows=eb.rows/\am.rows=am.rows))/\(decide ((i:Int)<(am.len:Int))=false->true=rvK ch pc vs c am))) (by kernel_rfl) ?_
  intro hm hs;simp only [Nat.reduceAdd,Nat.zero_add,k_n];have hl:=hs.1;refine ⟨fun h=>plK_iff.1 (by simpa using h.1),fun h=>?_,fun h=>?_⟩
  ·rw [rvK_eq,h];rfl
  have h0:=h;simp only [Bool.or_eq_false_iff,Bool.not_eq_false',bne_eq_false_iff_eq] at h;obtain ⟨⟨p1,p2⟩,p3⟩:=h;refine ⟨⟨0,⟨Nat.zero_le _,p1,p2,fun j hj=>absurd hj (Nat.not_lt_zero j)⟩,rfl,(by (repeat' (with_reducible apply And.intro))<;>first |exact True.intro |rfl)⟩,fun i hp=>⟨fun hc=>?_,fun hc=>?_⟩⟩
  ·have hc:=of_decide_eq_true hc;have hi:i<am.len:=by omega
   have z:=lel_lt (j:=2) hi;have z1:SizeOf.sizeOf (am.el i 2)<m:=by omega
   have er:=arK_eq ch pc vs (ch.el c.toNat 4).toI am i;rw [tgU_sub (by omega),D.sub_len am (by omega)];refine ⟨⟨by omega,by omega⟩,plK_iff.1 p1,fun _=>⟨by omega,by omega⟩,fun _=>by omega,fun _=>z1,fun _=>hs.2 i hi,fun hq=>?_,fun hq=>?_⟩
   ·rw [rvK_eq,h0];rw [hq] at er;exact (allB_no hi er).symm
   ·rw [hq] at er;exact ⟨i+1,⟨hi,p1,p2,k_ext hp.2.2.2 er⟩,by omega,k_nx (by omega),(by (repeat' (with_reducible apply And.intro))<;>first |exact True.intro |rfl)⟩
  ·have hc:=of_decide_eq_false hc;rw [rvK_eq,h0];exact (allB_yes fun j hj=>hp.2.2.2 j (by omega)).symm
 ·trivial
noncomputable def kstS (m:Nat):FSpec:=fun ds _=>match ds with
 | [.d ch,.i pc,.i vs,.i k,.i v,.i c,.i t,.i ek,.i en,.i ev,.d ed,.i op,.i lk,.i ln,.i lv,.d ld,.i rk,.i rn,.i rv,.d rd,.d bd,.d eb,.d am]=>some {val:=.one (.sc (.bool (.sym (skS ch pc vs k v c t ek en ev ed op lk ln lv ld rk rn rv rd bd eb am)))),vc:=[SizeOf.sizeOf bd<m,SizeOf.sizeOf eb<m,SizeOf.sizeOf am<m,kOK bd,kOK eb,amK am]}
 |_=>none
noncomputable def kstC (m:Nat):Con:=con [kIn,kSt] (kstS m)
set_option maxHeartbeats 4000000 in
theorem kst_ok {m:Nat} (ih:ConOK Try.prog 21 (con [kIn,kBo] (kbdSu m))):ConOK Try.prog 34 (kstC m):=by
 refine fn_ob tt_ok mixed Try.func34 rfl (fun _ _=>by kernel_rfl) (A:=fun ds=>⟨fun _=>Cons.of [(51,kvrC),(52,kxrC),(54,kcrC),(53,ksnC),(55,ksdC),(56,(krvC m)),(21,con [kIn,kBo] (kbdSu m))],fun _=>none,fun _=>none⟩) (fun _ _=>(cons_cons kvr_ok (cons_cons kxr_ok (cons_cons kcr_ok (cons_cons ksn_ok (cons_cons ksd_ok (cons_cons (krv_ok ih) (cons_cons ih cons_nil)))))))) (by kernel_rfl) ?_
 intro ds fr;unfold kstS;split
 ·rename_i ch pc vs k v c t ek en ev ed op lk ln lv ld rk rn rv rd bd eb am;refine @kmp _ (SizeOf.sizeOf bd<m->SizeOf.sizeOf eb<m->SizeOf.sizeOf am<m->kOK bd->kOK eb->amK am->((k==(1:Int))=true->(plK v vs&&xkX vs ek en ev ed&&nkS (0:Int) (0:Int) c t (0:Int) (0:Int) (0:Int) (↑(D.l []).len:Int) op lk ln lv (ld.len:Int) rk rn rv (rd.len:Int) (bd.len:Int) (eb.len:Int) (am.len:Int))=skS ch pc vs k v c t ek en ev ed op lk ln lv ld rk rn rv rd bd eb am)/\((k==(1:Int))=false->((k==(2:Int))=true->(xkC vs op lk ln lv ld rk rn rv rd=true/\True->SizeOf.sizeOf bd<m)/\(xkC vs op lk ln lv ld rk rn rv rd=true/\True->kOK bd)/\((xkC vs op lk ln lv ld rk rn rv rd&&bkR ch pc vs bd)=true/\True->SizeOf.sizeOf eb<m)/\((xkC vs op lk ln lv ld rk rn rv rd&&bkR ch pc vs bd)=true/\True->kOK eb)/\(xkC vs op lk ln lv ld rk rn rv rd&&bkR ch pc vs bd&&bkR ch pc vs eb&&nkS (0:Int) v c t ek en ev (ed.len:Int) (0:Int) (0:Int) (0:Int) (0:Int) (↑(D.l []).len:Int) (0:Int) (0:Int) (0:Int) (↑(D.l []).len:Int) (↑(D.l []).len:Int) (↑(D.l []).len:Int) (am.len:Int))=skS ch pc vs k v c t ek en ev ed op lk ln lv ld rk rn rv rd bd eb am)/\((k==(2:Int))=false->((k==(3:Int))=true->(xkC vs op lk ln lv ld rk rn rv rd=true/\True->SizeOf.sizeOf bd<m)/\(xkC vs op lk ln lv ld rk rn rv rd=true/\True->kOK bd)/\(xkC vs op lk ln lv ld rk rn rv rd&&bkR ch pc vs bd&&nkS (0:Int) v c t ek en ev (ed.len:Int) (0:Int) (0:Int) (0:Int) (0:Int) (↑(D.l []).len:Int) (0:Int) (0:Int) (0:Int) (↑(D.l []).len:Int) (↑(D.l []).len:Int) (eb.len:Int) (am.len:Int))=skS ch pc vs k v c t ek en ev ed op lk ln lv ld rk rn rv rd bd eb am)/\((k==(3:Int))=false->((k==(4:Int))=true->(skD ch pc c t&&xkX vs ek en ev ed&&nkS (0:Int) v (0:Int) (0:Int) (0:Int) (0:Int) (0:Int) (↑(D.l []).len:Int) op lk ln lv (ld.len:Int) rk rn rv (rd.len:Int) (bd.len:Int) (eb.len:Int) (am.len:Int))=skS ch pc vs k v c t ek en ev ed op lk ln lv ld rk rn rv rd bd eb am)/\((k==(4:Int))=false->((k==(5:Int))=true->SizeOf.sizeOf am<m/\amK am/\(rvK ch pc vs c am&&nkS (0:Int) v (0:Int) t ek en ev (ed.len:Int) op lk ln lv (ld.len:Int) rk rn rv (rd.len:Int) (bd.len:Int) (eb.len:Int) (↑(D.l []).len:Int))=skS ch pc vs k v c t ek en ev ed op lk ln lv ld rk rn rv rd bd eb am)/\((k==(5:Int))=false->((k==(6:Int))=true->(xkC vs op lk ln lv ld rk rn rv rd&&nkS (0:Int) v c t ek en ev (ed.len:Int) (0:Int) (0:Int) (0:Int) (0:Int) (↑(D.l []).len:Int) (0:Int) (0:Int) (0:Int) (↑(D.l []).len:Int) (bd.len:Int) (eb.len:Int) (am.len:Int))=skS ch pc vs k v c t ek en ev ed op lk ln lv ld rk rn rv rd bd eb am)/\((k==(6:Int))=false->((k==(7:Int))=true->(plK v vs&&nkS (0:Int) (0:Int) c t ek en ev (ed.len:Int) op lk ln lv (ld.len:Int) rk rn rv (rd.len:Int) (bd.len:Int) (eb.len:Int) (am.len:Int))=skS ch pc vs k v c t ek en ev ed op lk ln lv ld rk rn rv rd bd eb am)/\((k==(7:Int))=false->false=skS ch pc vs k v c t ek en ev ed op lk ln lv ld rk rn rv rd bd eb am)))))))) (by kernel_rfl) ?_
  intro h1 h2 h3 h4 h5 h6;simp only [nkS,k_z0,k_zN,k_zL,Bool.true_and,Bool.and_true];unfold skS;refine ⟨fun h=>?_,fun n1=>⟨fun h=>⟨fun _=>h1,fun _=>h4,fun _=>h2,fun _=>h5,?_⟩,fun n2=>⟨fun h=>⟨fun _=>h1,fun _=>h4,?_⟩,fun n3=>⟨fun h=>?_,fun n4=>⟨fun h=>⟨h3,h6,?_⟩,fun n5=>⟨fun h=>?_,fun n6=>⟨fun h=>?_,fun n7=>?_⟩⟩⟩⟩⟩⟩⟩
  ·obtain rfl:=eq_of_beq h;rw [skF_1];ac_rfl
  ·obtain rfl:=eq_of_beq h;rw [skF_2];ac_rfl
  ·obtain rfl:=eq_of_beq h;rw [skF_3];ac_rfl
  ·obtain rfl:=eq_of_beq h;rw [skF_4];ac_rfl
  ·obtain rfl:=eq_of_beq h;rw [skF_5];ac_rfl
  ·obtain rfl:=eq_of_beq h;rw [skF_6];ac_rfl
  ·obtain rfl:=eq_of_beq h;rw [skF_7];ac_rfl
  ·exact (skF_no (ne_of_beq_false n1) (ne_of_beq_false n2) (ne_of_beq_false n3) (ne_of_beq_false n4) (ne_of_beq_false n5) (ne_of_beq_false n6) (ne_of_beq_false n7)).symm
 ·trivial
theorem kbd_step (m:Nat) (ih:ConOK Try.prog 21 (con [kIn,kBo] (kbdSu m))):ConOK Try.prog 21 (con [kIn,kBo] (kbdSu (m+1))):=by
 refine fn_ob tt_ok mixed Try.func21 rfl (fun _ _=>by kernel_rfl) (A:=fun ds=>⟨fun _=>Cons.of [(34,(kstC m))],fun k=>match k,ds with | 2,[.d ch,.i pc,.i vs,.d d]=>some {ι:=Nat,pre:=fun _ i=>i<=d.len/\∀ j,j<i->skE ch pc vs d j=true,μ:=fun i=>d.len+1-i,st:=fun s i=>famR s [(9,.one (.sc (.int .i64 (.sym ((i:Int))))))] [2,7,8] [] [2]} |_,_=>none,fun _=>none⟩) (fun _ _=>(cons_cons (kst_ok ih) cons_nil)) (by kernel_rfl) ?_
 intro ds fr;unfold kbdSu;split
 ·rename_i ch pc vs d;refine @kmp _ (SizeOf.sizeOf d<m+(1:Nat)->kOK d->(∃ (i:Nat),(i<=d.len/\∀ (j:Nat),j<i->skE ch pc vs d j=true)/\(0:Int)=(i:Int)/\d.rows=d.rows/\(d.len:Int)=(d.len:Int)/\ch.rows=ch.rows/\pc=pc/\vs=vs)/\∀ (i:Nat),(i<=d.len/\∀ (j:Nat),j<i->skE ch pc vs d j=true)->(decide ((i:Int)<(d.len:Int))=true->((0:Int)<=(i:Int)/\(i:Int)<(d.len:Int))/\SizeOf.sizeOf (d.el (i:Int).toNat 17)<m/\SizeOf.sizeOf (d.el (i:Int).toNat 18)<m/\SizeOf.sizeOf (d.el (i:Int).toNat 19)<m/\kOK (d.el (i:Int).toNat 17)/\kOK (d.el (i:Int).toNat 18)/\amK (d.el (i:Int).toNat 19)/\((!skS ch pc vs (d.el (i:Int).toNat 0).toI (d.el (i:Int).toNat 1).toI (d.el (i:Int).toNat 2).toI (d.el (i:Int).toNat 3).toI (d.el (i:Int).toNat 4).toI (d.el (i:Int).toNat 5).toI (d.el (i:Int).toNat 6).toI (d.el (i:Int).toNat 7) (d.el (i:Int).toNat 8).toI (d.el (i:Int).toNat 9).toI (d.el (i:Int).toNat 10).toI (d.el (i:Int).toNat 11).toI (d.el (i:Int).toNat 12) (d.el (i:Int).toNat 13).toI (d.el (i:Int).toNat 14).toI (d.el (i:Int).toNat 15).toI (d.el (i:Int).toNat 16) (d.el (i:Int).toNat 17) (d.el (i:Int).toNat 18) (d.el (i:Int).toNat 19))=true->false=bkR ch pc vs d)/\((!skS ch pc vs (d.el (i:Int).toNat 0).toI (d.el (i:Int).toNat 1).toI (d.el (i:Int).toNat 2).toI (d.el (i:Int).toNat 3).toI (d.el (i:Int).toNat 4).toI (d.el (i:Int).toNat 5).toI (d.el (i:Int).toNat 6).toI (d.el (i:Int).toNat 7) (d.el (i:Int).toNat 8).toI (d.el (i:Int).toNat 9).toI (d.el (i:Int).toNat 10).toI (d.el (i:Int).toNat 11).toI (d.el (i:Int).toNat 12) (d.el (i:Int).toNat 13).toI (d.el (i:Int).toNat 14).toI (d.el (i:Int).toNat 15).toI (d.el (i:Int).toNat 16) (d.el (i:Int).toNat 17) (d.el (i:Int).toNat 18) (d.el (i:Int).toNat 19))=false->∃ (j:Nat),(j<=d.len/\∀ (j_1:Nat),j_1<j->skE ch pc vs d j_1=true)/\d.len+(1:Nat)-j<d.len+(1:Nat)-i/\IntKind.i64.wrap ((i:Int)+(1:Int))=(j:Int)/\d.rows=d.rows/\(d.len:Int)=(d.len:Int)/\ch.rows=ch.rows/\pc=pc/\vs=vs))/\(decide ((i:Int)<(d.len:Int))=false->true=bkR ch pc vs d)) (by kernel_rfl) ?_
  intro hm hs;simp only [Nat.reduceAdd,Nat.zero_add,k_n];have hl:=((kOK_iff d).1 hs).1;refine ⟨⟨0,⟨Nat.zero_le _,fun j hj=>absurd hj (Nat.not_lt_zero j)⟩,rfl,(by (repeat' (with_reducible apply And.intro))<;>first |exact True.intro |rfl)⟩,fun i hp=>⟨fun hc=>?_,fun hc=>?_⟩⟩
  ·have hc:=of_decide_eq_true hc;have hi:i<d.len:=by omega
   have z1:=lel_lt (j:=17) hi;have z2:=lel_lt (j:=18) hi;have z3:=lel_lt (j:=19) hi;obtain ⟨s1,s2,s3⟩:=((kOK_iff d).1 hs).2 i hi;refine ⟨⟨by omega,by omega⟩,by omega,by omega,by omega,s1,s2,s3,fun hq=>?_,fun hq=>?_⟩
   ·rw [Bool.not_eq_true'] at hq;rw [bkR_eq];exact (allB_no hi hq).symm
   ·rw [Bool.not_eq_false'] at hq;exact ⟨i+1,⟨hi,k_ext hp.2 hq⟩,by omega,k_nx (by omega),(by (repeat' (with_reducible apply And.intro))<;>first |exact True.intro |rfl)⟩
  ·have hc:=of_decide_eq_false hc;rw [bkR_eq];exact (allB_yes fun j hj=>hp.2 j (by omega)).symm
 ·trivial
theorem kbd_ok:ConOK Try.prog 21 kbdC:=
 con_rec kbdM (fun _ _=>by kernel_rfl) fun m ih=>by
  rw [kbd_under] at ih ⊢;exact kbd_step m ih
end Go.Proofs.Ytcfkhnlkfgmoiaa.Sx.Z

import Derived.Test.YtplejbgafjpomaaGreatDoorProg
import Derived.Test.YtplejbgafjpomaaGreatDoorZb15
import Derived.Test.YtplejbgafjpomaaGreatDoorZb14
import Derived.Shelf.Strconv.Itoa0
import Derived.Shelf.Strconv.Itoa1
import Derived.Shelf.LaysM
import Derived.Shelf.Strconv.Itoa2
import Derived.Shelf.Strconv.Itoa3
import Derived.Shelf.Strconv.Clone
import Derived.Shelf.Bits.Mul64
import Derived.Lib.ItoaLen
import Derived.Lib.AppendIntMem
set_option linter.unusedVariables false
set_option linter.unusedSimpArgs false
namespace Go.Proofs.YtplejbgafjpomaaGreatDoor.Sx.Z
def tt:TT:=[(2,⟨.int .i64,1,none,[.c (.int .i64 (.lit 0))],none,none,8⟩),
 (3,⟨.int .i64,1,none,[.c (.int .i64 (.lit 0))],none,some ([.int .i64]),8⟩),
 (4,⟨.bool,1,none,[.c (.bool (.lit false))],none,none,1⟩),
 (5,⟨.int .u8,1,none,[.c (.int .u8 (.lit 0))],none,some ([.int .u8]),1⟩),
 (9,⟨.string,1,none,[.c (.raw (.string ByteArray.empty))],none,some ([.str]),16⟩),
 (21,⟨.int .i32,1,none,[.c (.int .i32 (.lit 0))],none,none,4⟩),
 (22,⟨.slice 72,1,none,[.c .nils],none,none,24⟩),
 (23,⟨.slice 86,1,none,[.c .nils],none,none,24⟩),
 (24,⟨.slice 75,1,none,[.c .nils],none,none,24⟩),
 (26,⟨.struct [(22,0),(23,1),(24,2)],3,some [.c,.c,.c],[.c .nils,.c .nils,.c .nils],none,none,72⟩),
 (27,⟨.slice 39,1,none,[.c .nils],none,none,24⟩),
 (28,⟨.slice 44,1,none,[.c .nils],none,none,24⟩),
 (30,⟨.struct [(27,0),(28,1)],2,some [.c,.c],[.c .nils,.c .nils],none,none,48⟩),
 (31,⟨.int .i64,1,none,[.c (.int .i64 (.lit 0))],none,none,8⟩),
 (35,⟨.int .u64,1,none,[.c (.int .u64 (.lit 0))],none,none,8⟩),
 (37,⟨.slice 40,1,none,[.c .nils],none,none,24⟩),
 (39,⟨.struct [(3,0),(3,1),(3,2),(3,3),(3,4),(37,5)],6,some [.c,.c,.c,.c,.c,.c],[.c (.int .i64 (.lit 0)),.c (.int .i64 (.lit 0)),.c (.int .i64 (.lit 0)),.c (.int .i64 (.lit 0)),.c (.int .i64 (.lit 0)),.c .nils],none,some ([.int .i64,.int .i64,.int .i64,.int .i64,.int .i64,.slice 40]),64⟩),
 (40,⟨.slice 3,1,none,[.c .nils],none,some ([.slice 3]),24⟩),
 (42,⟨.slice 52,1,none,[.c .nils],none,none,24⟩),
 (44,⟨.struct [(3,0),(42,1)],2,some [.c,.c],[.c (.int .i64 (.lit 0)),.c .nils],none,some ([.int .i64,.slice 52]),32⟩),
 (45,⟨.slice 47,1,none,[.c .nils],none,none,24⟩),
 (47,⟨.struct [(3,0),(3,1),(3,2),(45,3)],4,some [.c,.c,.c,.c],[.c (.int .i64 (.lit 0)),.c (.int .i64 (.lit 0)),.c (.int .i64 (.lit 0)),.c .nils],none,some ([.int .i64,.int .i64,.int .i64,.slice 47]),48⟩),
 (49,⟨.struct [(3,0),(47,1),(47,5)],9,some [.c,.c,.c,.c,.c,.c,.c,.c,.c],[.c (.int .i64 (.lit 0)),.c (.int .i64 (.lit 0)),.c (.int .i64 (.lit 0)),.c (.int .i64 (.lit 0)),.c .nils,.c (.int .i64 (.lit 0)),.c (.int .i64 (.lit 0)),.c (.int .i64 (.lit 0)),.c .nils],none,none,104⟩),
 (50,⟨.slice 156,1,none,[.c .nils],none,none,24⟩),
 (52,⟨.struct [(3,0),(3,1),(3,2),(3,3),(47,4),(49,8),(42,17),(42,18),(50,19)],20,some [.c,.c,.c,.c,.c,.c,.c,.c,.c,.c,.c,.c,.c,.c,.c,.c,.c,.c,.c,.c],[.c (.int .i64 (.lit 0)),.c (.int .i64 (.lit 0)),.c (.int .i64 (.lit 0)),.c (.int .i64 (.lit 0)),.c (.int .i64 (.lit 0)),.c (.int .i64 (.lit 0)),.c (.int .i64 (.lit 0)),.c .nils,.c (.int .i64 (.lit 0)),.c (.int .i64 (.lit 0)),.c (.int .i64 (.lit 0)),.c (.int .i64 (.lit 0)),.c .nils,.c (.int .i64 (.lit 0)),.c (.int .i64 (.lit 0)),.c (.int .i64 (.lit 0)),.c .nils,.c .nils,.c .nils,.c .nils],none,some (List.replicate 7 (.int .i64)++[.slice 47,.int .i64,.int .i64,.int .i64,.int .i64,.slice 47,.int .i64,.int .i64,.int .i64,.slice 47,.slice 52,.slice 52,.slice 156]),256⟩),
 (54,⟨.slice 69,1,none,[.c .nils],none,none,24⟩),
 (55,⟨.slice 78,1,none,[.c .nils],none,none,24⟩),
 (57,⟨.struct [(54,0),(55,1)],2,some [.c,.c],[.c .nils,.c .nils],none,none,48⟩),
 (63,⟨.slice 118,1,none,[.c .nils],none,none,24⟩),
 (64,⟨.slice 121,1,none,[.c .nils],none,none,24⟩),
 (65,⟨.slice 126,1,none,[.c .nils],none,none,24⟩),
 (67,⟨.struct [(63,0),(64,1),(65,2)],3,some [.c,.c,.c],[.c .nils,.c .nils,.c .nils],none,none,72⟩),
 (69,⟨.struct [(3,0),(3,1),(3,2),(3,3),(3,4),(37,5)],6,some [.c,.c,.c,.c,.c,.c],[.c (.int .i64 (.lit 0)),.c (.int .i64 (.lit 0)),.c (.int .i64 (.lit 0)),.c (.int .i64 (.lit 0)),.c (.int .i64 (.lit 0)),.c .nils],none,some ([.int .i64,.int .i64,.int .i64,.int .i64,.int .i64,.slice 40]),64⟩),
 (70,⟨.slice 9,1,none,[.c .nils],none,none,24⟩),
 (72,⟨.struct [(9,0),(3,1),(3,2),(9,3),(9,4),(70,5)],6,some [.c,.c,.c,.c,.c,.c],[.c (.raw (.string ByteArray.empty)),.c (.int .i64 (.lit 0)),.c (.int .i64 (.lit 0)),.c (.raw (.string ByteArray.empty)),.c (.raw (.string ByteArray.empty)),.c .nils],none,some ([.str,.int .i64,.int .i64,.str,.str,.slice 9]),88⟩),
 (73,⟨.slice 148,1,none,[.c .nils],none,some ([.slice 148]),24⟩),
 (75,⟨.struct [(9,0),(70,1),(73,2)],3,some [.c,.c,.c],[.c (.raw (.string ByteArray.empty)),.c .nils,.c .nils],none,some ([.str,.slice 9,.slice 148]),64⟩),
 (76,⟨.slice 166,1,none,[.c .nils],none,none,24⟩),
 (78,⟨.struct [(3,0),(76,1)],2,some [.c,.c],[.c (.int .i64 (.lit 0)),.c .nils],none,some ([.int .i64,.slice 166]),32⟩),
 (80,⟨.slice 84,1,none,[.c .nils],none,none,24⟩),
 (81,⟨.array 2 3,2,some [.ints .i64 2],[.ints .i64 (.lit 2) (fun _=>0)],some [(.i .i64,2)],none,16⟩),
 (84,⟨.struct [(3,0),(9,1),(3,2)],3,some [.c,.c,.c],[.c (.int .i64 (.lit 0)),.c (.raw (.string ByteArray.empty)),.c (.int .i64 (.lit 0))],some [(.i .i64,1),(.s,1),(.i .i64,1)],some ([.int .i64,.str,.int .i64]),32⟩),
 (86,⟨.struct [(9,0),(80,1)],2,some [.c,.c],[.c (.raw (.string ByteArray.empty)),.c .nils],none,some ([.str,.slice 84]),40⟩),
 (91,⟨.slice 5,1,none,[.c .nils],none,none,24⟩),
 (99,⟨.struct [(26,0),(70,3),(3,4),(70,5),(70,6),(31,7)],8,some [.c,.c,.c,.c,.c,.c,.c,.c],[.c .nils,.c .nils,.c .nils,.c .nils,.c (.int .i64 (.lit 0)),.c .nils,.c .nils,.c (.int .i64 (.lit 0))],none,none,160⟩),
 (103,⟨.array 4 3,4,some [.ints .i64 4],[.ints .i64 (.lit 4) (fun _=>0)],some [(.i .i64,4)],none,32⟩),
 (104,⟨.array 8 103,32,some [.ints .i64 32],[.ints .i64 (.lit 32) (fun _=>0)],some [(.i .i64,32)],none,256⟩),
 (108,⟨.struct [(54,0),(3,1),(3,2)],3,some [.c,.c,.c],[.c .nils,.c (.int .i64 (.lit 0)),.c (.int .i64 (.lit 0))],none,none,40⟩),
 (118,⟨.struct [(9,0),(3,1),(3,2),(9,3),(9,4),(70,5)],6,some [.c,.c,.c,.c,.c,.c],[.c (.raw (.string ByteArray.empty)),.c (.int .i64 (.lit 0)),.c (.int .i64 (.lit 0)),.c (.raw (.string ByteArray.empty)),.c (.raw (.string ByteArray.empty)),.c .nils],none,some ([.str,.int .i64,.int .i64,.str,.str,.slice 9]),88⟩),
 (119,⟨.slice 122,1,none,[.c .nils],none,none,24⟩),
 (121,⟨.struct [(9,0),(119,1)],2,some [.c,.c],[.c (.raw (.string ByteArray.empty)),.c .nils],none,some ([.str,.slice 122]),40⟩),
 (122,⟨.struct [(3,0),(9,1),(3,2)],3,some [.c,.c,.c],[.c (.int .i64 (.lit 0)),.c (.raw (.string ByteArray.empty)),.c (.int .i64 (.lit 0))],some [(.i .i64,1),(.s,1),(.i .i64,1)],some ([.int .i64,.str,.int .i64]),32⟩),
 (123,⟨.slice 193,1,none,[.c .nils],none,none,24⟩),
 (126,⟨.struct [(9,0),(70,1),(123,2)],3,some [.c,.c,.c],[.c (.raw (.string ByteArray.empty)),.c .nils,.c .nils],none,some ([.str,.slice 9,.slice 193]),64⟩),
 (131,⟨.slice 202,1,none,[.c .nils],none,none,24⟩),
 (135,⟨.struct [(131,0),(3,1),(3,2),(3,3),(31,4)],5,some [.c,.c,.c,.c,.c],[.c .nils,.c (.int .i64 (.lit 0)),.c (.int .i64 (.lit 0)),.c (.int .i64 (.lit 0)),.c (.int .i64 (.lit 0))],none,none,56⟩),
 (141,⟨.slice 143,1,none,[.c .nils],none,none,24⟩),
 (143,⟨.struct [(3,0),(3,1),(9,2),(141,3)],4,some [.c,.c,.c,.c],[.c (.int .i64 (.lit 0)),.c (.int .i64 (.lit 0)),.c (.raw (.string ByteArray.empty)),.c .nils],none,some ([.int .i64,.int .i64,.str,.slice 143]),56⟩),
 (145,⟨.struct [(3,0),(143,1),(143,5)],9,some [.c,.c,.c,.c,.c,.c,.c,.c,.c],[.c (.int .i64 (.lit 0)),.c (.int .i64 (.lit 0)),.c (.int .i64 (.lit 0)),.c (.raw (.string ByteArray.empty)),.c .nils,.c (.int .i64 (.lit 0)),.c (.int .i64 (.lit 0)),.c (.raw (.string ByteArray.empty)),.c .nils],none,none,120⟩),
 (146,⟨.slice 154,1,none,[.c .nils],none,none,24⟩),
 (148,⟨.struct [(3,0),(9,1),(9,2),(143,3),(145,7),(73,16),(73,17),(146,18)],19,some [.c,.c,.c,.c,.c,.c,.c,.c,.c,.c,.c,.c,.c,.c,.c,.c,.c,.c,.c],[.c (.int .i64 (.lit 0)),.c (.raw (.string ByteArray.empty)),.c (.raw (.string ByteArray.empty)),.c (.int .i64 (.lit 0)),.c (.int .i64 (.lit 0)),.c (.raw (.string ByteArray.empty)),.c .nils,.c (.int .i64 (.lit 0)),.c (.int .i64 (.lit 0)),.c (.int .i64 (.lit 0)),.c (.raw (.string ByteArray.empty)),.c .nils,.c (.int .i64 (.lit 0)),.c (.int .i64 (.lit 0)),.c (.raw (.string ByteArray.empty)),.c .nils,.c .nils,.c .nils,.c .nils],none,some ([.int .i64,.str,.str,.int .i64,.int .i64,.str,.slice 143,.int .i64,.int .i64,.int .i64,.str,.slice 143,.int .i64,.int .i64,.str,.slice 143,.slice 148,.slice 148,.slice 154]),288⟩),
 (154,⟨.struct [(9,0),(9,1),(73,2)],3,some [.c,.c,.c],[.c (.raw (.string ByteArray.empty)),.c (.raw (.string ByteArray.empty)),.c .nils],none,some ([.str,.str,.slice 148]),56⟩),
 (156,⟨.struct [(3,0),(3,1),(42,2)],3,some [.c,.c,.c],[.c (.int .i64 (.lit 0)),.c (.int .i64 (.lit 0)),.c .nils],none,some ([.int .i64,.int .i64,.slice 52]),40⟩),
 (159,⟨.slice 161,1,none,[.c .nils],none,none,24⟩),
 (161,⟨.struct [(3,0),(3,1),(3,2),(159,3)],4,some [.c,.c,.c,.c],[.c (.int .i64 (.lit 0)),.c (.int .i64 (.lit 0)),.c (.int .i64 (.lit 0)),.c .nils],none,some ([.int .i64,.int .i64,.int .i64,.slice 161]),48⟩),
 (163,⟨.struct [(3,0),(161,1),(161,5)],9,some [.c,.c,.c,.c,.c,.c,.c,.c,.c],[.c (.int .i64 (.lit 0)),.c (.int .i64 (.lit 0)),.c (.int .i64 (.lit 0)),.c (.int .i64 (.lit 0)),.c .nils,.c (.int .i64 (.lit 0)),.c (.int .i64 (.lit 0)),.c (.int .i64 (.lit 0)),.c .nils],none,none,104⟩),
 (164,⟨.slice 170,1,none,[.c .nils],none,none,24⟩),
 (166,⟨.struct [(3,0),(3,1),(3,2),(3,3),(161,4),(163,8),(76,17),(76,18),(164,19)],20,some [.c,.c,.c,.c,.c,.c,.c,.c,.c,.c,.c,.c,.c,.c,.c,.c,.c,.c,.c,.c],[.c (.int .i64 (.lit 0)),.c (.int .i64 (.lit 0)),.c (.int .i64 (.lit 0)),.c (.int .i64 (.lit 0)),.c (.int .i64 (.lit 0)),.c (.int .i64 (.lit 0)),.c (.int .i64 (.lit 0)),.c .nils,.c (.int .i64 (.lit 0)),.c (.int .i64 (.lit 0)),.c (.int .i64 (.lit 0)),.c (.int .i64 (.lit 0)),.c .nils,.c (.int .i64 (.lit 0)),.c (.int .i64 (.lit 0)),.c (.int .i64 (.lit 0)),.c .nils,.c .nils,.c .nils,.c .nils],none,some (List.replicate 7 (.int .i64)++[.slice 161,.int .i64,.int .i64,.int .i64,.int .i64,.slice 161,.int .i64,.int .i64,.int .i64,.slice 161,.slice 166,.slice 166,.slice 170]),256⟩),
 (170,⟨.struct [(3,0),(3,1),(76,2)],3,some [.c,.c,.c],[.c (.int .i64 (.lit 0)),.c (.int .i64 (.lit 0)),.c .nils],none,some ([.int .i64,.int .i64,.slice 166]),40⟩),
 (174,⟨.struct [(70,0)],1,some [.c],[.c .nils],none,none,24⟩),
 (182,⟨.struct [(63,0),(9,1),(70,2),(31,3)],4,some [.c,.c,.c,.c],[.c .nils,.c (.raw (.string ByteArray.empty)),.c .nils,.c (.int .i64 (.lit 0))],none,none,72⟩),
 (184,⟨.slice 186,1,none,[.c .nils],none,none,24⟩),
 (186,⟨.struct [(3,0),(3,1),(9,2),(184,3)],4,some [.c,.c,.c,.c],[.c (.int .i64 (.lit 0)),.c (.int .i64 (.lit 0)),.c (.raw (.string ByteArray.empty)),.c .nils],none,some ([.int .i64,.int .i64,.str,.slice 186]),56⟩),
 (189,⟨.struct [(3,0),(186,1),(186,5)],9,some [.c,.c,.c,.c,.c,.c,.c,.c,.c],[.c (.int .i64 (.lit 0)),.c (.int .i64 (.lit 0)),.c (.int .i64 (.lit 0)),.c (.raw (.string ByteArray.empty)),.c .nils,.c (.int .i64 (.lit 0)),.c (.int .i64 (.lit 0)),.c (.raw (.string ByteArray.empty)),.c .nils],none,none,120⟩),
 (191,⟨.slice 195,1,none,[.c .nils],none,none,24⟩),
 (193,⟨.struct [(3,0),(9,1),(9,2),(186,3),(189,7),(123,16),(123,17),(191,18)],19,some [.c,.c,.c,.c,.c,.c,.c,.c,.c,.c,.c,.c,.c,.c,.c,.c,.c,.c,.c],[.c (.int .i64 (.lit 0)),.c (.raw (.string ByteArray.empty)),.c (.raw (.string ByteArray.empty)),.c (.int .i64 (.lit 0)),.c (.int .i64 (.lit 0)),.c (.raw (.string ByteArray.empty)),.c .nils,.c (.int .i64 (.lit 0)),.c (.int .i64 (.lit 0)),.c (.int .i64 (.lit 0)),.c (.raw (.string ByteArray.empty)),.c .nils,.c (.int .i64 (.lit 0)),.c (.int .i64 (.lit 0)),.c (.raw (.string ByteArray.empty)),.c .nils,.c .nils,.c .nils,.c .nils],none,some ([.int .i64,.str,.str,.int .i64,.int .i64,.str,.slice 186,.int .i64,.int .i64,.int .i64,.str,.slice 186,.int .i64,.int .i64,.str,.slice 186,.slice 193,.slice 193,.slice 195]),288⟩),
 (195,⟨.struct [(9,0),(9,1),(123,2)],3,some [.c,.c,.c],[.c (.raw (.string ByteArray.empty)),.c (.raw (.string ByteArray.empty)),.c .nils],none,some ([.str,.str,.slice 193]),56⟩),
 (196,⟨.slice 73,1,none,[.c .nils],none,none,24⟩),
 (202,⟨.struct [(3,0),(9,1),(3,2),(3,3)],4,some [.c,.c,.c,.c],[.c (.int .i64 (.lit 0)),.c (.raw (.string ByteArray.empty)),.c (.int .i64 (.lit 0)),.c (.int .i64 (.lit 0))],some [(.i .i64,1),(.s,1),(.i .i64,1),(.i .i64,1)],some ([.int .i64,.str,.int .i64,.int .i64]),40⟩),
 (212,⟨.slice 215,1,none,[.c .nils],none,none,24⟩),
 (215,⟨.struct [(3,0),(9,1),(3,2),(3,3)],4,some [.c,.c,.c,.c],[.c (.int .i64 (.lit 0)),.c (.raw (.string ByteArray.empty)),.c (.int .i64 (.lit 0)),.c (.int .i64 (.lit 0))],some [(.i .i64,1),(.s,1),(.i .i64,1),(.i .i64,1)],some ([.int .i64,.str,.int .i64,.int .i64]),40⟩),
 (224,⟨.array 4 4,4,some [.c,.c,.c,.c],[.c (.bool (.lit false)),.c (.bool (.lit false)),.c (.bool (.lit false)),.c (.bool (.lit false))],some [(.b,4)],none,4⟩),
 (225,⟨.other,1,none,[.c (.raw .nilFunc)],none,none,8⟩),
 (234,⟨.other,1,none,[.c (.raw .nilFunc)],none,none,8⟩),
 (265,⟨.other,1,none,[.c (.raw .nilFunc)],none,none,8⟩),
 (271,⟨.int .u64,1,none,[.c (.int .u64 (.lit 0))],none,none,8⟩),
 (282,⟨.int .u32,1,none,[.c (.int .u32 (.lit 0))],none,none,4⟩)]
theorem tt_ok:TTOK Tryz.prog tt:=ttAll_ok rfl ⟨by kernel_rfl,trivial,by kernel_rfl,⟨by kernel_rfl,by kernel_rfl,by kernel_rfl⟩,by kernel_rfl,trivial,by kernel_rfl,⟨by kernel_rfl,by kernel_rfl,by kernel_rfl⟩,by kernel_rfl,⟨by kernel_rfl,by kernel_rfl,by kernel_rfl⟩,by kernel_rfl,trivial,by kernel_rfl,trivial,by kernel_rfl,trivial,by kernel_rfl,trivial,by kernel_rfl,trivial,by kernel_rfl,trivial,by kernel_rfl,trivial,by kernel_rfl,trivial,by kernel_rfl,trivial,by kernel_rfl,trivial,by kernel_rfl,trivial,by kernel_rfl,⟨by kernel_rfl,by kernel_rfl,by kernel_rfl⟩,by kernel_rfl,⟨by kernel_rfl,by kernel_rfl,by kernel_rfl⟩,by kernel_rfl,trivial,by kernel_rfl,⟨by kernel_rfl,by kernel_rfl,by kernel_rfl⟩,by kernel_rfl,trivial,by kernel_rfl,⟨by kernel_rfl,by kernel_rfl,by kernel_rfl⟩,by kernel_rfl,trivial,by kernel_rfl,trivial,by kernel_rfl,⟨by kernel_rfl,by kernel_rfl,by kernel_rfl⟩,by kernel_rfl,trivial,by kernel_rfl,trivial,by kernel_rfl,trivial,by kernel_rfl,trivial,by kernel_rfl,trivial,by kernel_rfl,trivial,by kernel_rfl,trivial,by kernel_rfl,⟨by kernel_rfl,by kernel_rfl,by kernel_rfl⟩,by kernel_rfl,trivial,by kernel_rfl,⟨by kernel_rfl,by kernel_rfl,by kernel_rfl⟩,by kernel_rfl,⟨by kernel_rfl,by kernel_rfl,by kernel_rfl⟩,by kernel_rfl,⟨by kernel_rfl,by kernel_rfl,by kernel_rfl⟩,by kernel_rfl,trivial,by kernel_rfl,⟨by kernel_rfl,by kernel_rfl,by kernel_rfl⟩,by kernel_rfl,trivial,by kernel_rfl,trivial,by kernel_rfl,⟨by kernel_rfl,by kernel_rfl,by kernel_rfl⟩,by kernel_rfl,⟨by kernel_rfl,by kernel_rfl,by kernel_rfl⟩,by kernel_rfl,trivial,by kernel_rfl,trivial,by kernel_rfl,trivial,by kernel_rfl,trivial,by kernel_rfl,trivial,by kernel_rfl,⟨by kernel_rfl,by kernel_rfl,by kernel_rfl⟩,by kernel_rfl,trivial,by kernel_rfl,⟨by kernel_rfl,by kernel_rfl,by kernel_rfl⟩,by kernel_rfl,⟨by kernel_rfl,by kernel_rfl,by kernel_rfl⟩,by kernel_rfl,trivial,by kernel_rfl,⟨by kernel_rfl,by kernel_rfl,by kernel_rfl⟩,by kernel_rfl,trivial,by kernel_rfl,trivial,by kernel_rfl,trivial,by kernel_rfl,⟨by kernel_rfl,by kernel_rfl,by kernel_rfl⟩,by kernel_rfl,trivial,by kernel_rfl,trivial,by kernel_rfl,⟨by kernel_rfl,by kernel_rfl,by kernel_rfl⟩,by kernel_rfl,⟨by kernel_rfl,by kernel_rfl,by kernel_rfl⟩,by kernel_rfl,⟨by kernel_rfl,by kernel_rfl,by kernel_rfl⟩,by kernel_rfl,trivial,by kernel_rfl,⟨by kernel_rfl,by kernel_rfl,by kernel_rfl⟩,by kernel_rfl,trivial,by kernel_rfl,trivial,by kernel_rfl,⟨by kernel_rfl,by kernel_rfl,by kernel_rfl⟩,by kernel_rfl,⟨by kernel_rfl,by kernel_rfl,by kernel_rfl⟩,by kernel_rfl,trivial,by kernel_rfl,trivial,by kernel_rfl,trivial,by kernel_rfl,⟨by kernel_rfl,by kernel_rfl,by kernel_rfl⟩,by kernel_rfl,trivial,by kernel_rfl,trivial,by kernel_rfl,⟨by kernel_rfl,by kernel_rfl,by kernel_rfl⟩,by kernel_rfl,⟨by kernel_rfl,by kernel_rfl,by kernel_rfl⟩,by kernel_rfl,trivial,by kernel_rfl,⟨by kernel_rfl,by kernel_rfl,by kernel_rfl⟩,by kernel_rfl,trivial,by kernel_rfl,⟨by kernel_rfl,by kernel_rfl,by kernel_rfl⟩,by kernel_rfl,trivial,by kernel_rfl,trivial,by kernel_rfl,trivial,by kernel_rfl,trivial,by kernel_rfl,trivial,by kernel_rfl,trivial,trivial⟩
theorem kall:kAll tt=true:=by kernel_rfl
theorem mixed:Tryz.prog.follows .mixedOrders=true:=by kernel_rfl
end Go.Proofs.YtplejbgafjpomaaGreatDoor.Sx.Z
namespace Go.Proofs.YtplejbgafjpomaaGreatDoor.Sx.Z
open Go.RowKit
def tokR (t:Tok):List D:=[.i t.kind,.s t.text,.i t.num,.i (t.pos:Nat)]
def tokD (l:List Tok):D:=.l (l.map tokR)
theorem tokD_len (l:List Tok):(tokD l).len=l.length:=List.length_map ..
def tokV (t:Tok):List Value:=[.int .i64 t.kind,.string t.text,.int .i64 t.num,.int .i64 (t.pos:Nat)]
theorem tcells_get:∀ {l:List Tok} {i j:Nat} {t:Tok},l[i]? = some t->j<4->(tcells l)[i*4+j]? = (tokV t)[j]?
 | [],i,j,t,h,_=>by simp at h
 |a::l,0,j,t,h,hj=>by
  obtain rfl:a=t:=by simpa using h
  show (tokV a++tcells l)[0*4+j]? = _;rw [Nat.zero_mul,Nat.zero_add,List.getElem?_append_left (by show j<4;exact hj)]
 |a::l,i+1,j,t,h,hj=>by
  have ih:=tcells_get (l:=l) (i:=i) (j:=j) (t:=t) (by simpa using h) hj;show (tokV a++tcells l)[(i+1)*4+j]? = _;rw [List.getElem?_append_right (by show 4<=_;omega)];rw [<- ih]
  congr 1
  show (i+1)*4+j-4=i*4+j;omega
theorem tok_eks:eks 202=[.int .i64,.str,.int .i64,.int .i64]:=by rfl
theorem tokD_el {l:List Tok} {i:Nat} {t:Tok} (h:l[i]? = some t) (j:Nat):(tokD l).el i j=(tokR t).getD j (.i 0):=by
 unfold D.el;have:(tokD l).rows.getD i []=tokR t:=by
  show (l.map tokR).getD i []=_;rw [List.getD_eq_getElem?_getD,List.getElem?_map,h];rfl
 rw [this]
def lexS:FSpec:=fun ds _=>match ds with
 | [.s s]=>some {val:=.tup [.sc (.rows 202 (tokD (lexR s).1)),.sc (.int .i64 (.sym ((lexR s).2.1:Nat))),.sc (.int .i64 (.sym (lexR s).2.2))],vc:=[s.size<=140737488351232]}
 |_=>none
def lexC:Con:=con [.sc .str] lexS
theorem lex_rel {fz:Fz} {l:List Tok} {A:Option Addr} {c:Nat} {base:Nat} {w:World} (h:w.ownsRow base 202 4 (.slice A l.length c) l.length (tcells l)) (hf:∀ g cur,base<=g->w.heap[g]? = some (.cells cur 202 (0,0))->A=some ⟨g,0,none⟩->fz g=some cur):TRel fz (.slice 202) (tokD l) (.slice A l.length c):=by
 rcases h.2 with ⟨hv,h0⟩ |⟨g,cap,cur,hv,hg,hh,h1,h2,h3,h4⟩
 ·rw [hv];exact .nil _ _ (by rw [tokD_len];exact h0)
 ·obtain ⟨hA,_,hc⟩:=Value.slice.inj hv;subst hA hc
  by_cases h0:l.length=0
  ·rw [h0];exact .empty _ _ _ _ (by rw [tokD_len];exact h0)
  ·have hF:=hf g cur hg hh rfl;have hat:∀ i j t,l[i]? = some t->j<4->cur[i*4+j]? = (tokV t)[j]?:=fun i j t ht hj=>by
    have e:=tcells_get ht hj;rw [<- h4] at e;have hi:i<l.length:=lt_of_get ht;rw [List.getElem?_take_of_lt (by omega),Array.getElem?_toList] at e;exact e
   rw [show Value.slice (some ⟨g,0,none⟩) l.length c=Value.slice (some ⟨g,0,none⟩) (tokD l).len c by rw [tokD_len]];refine .slice _ _ _ _ _ (fun i j=>(cur[i*4+j]?).getD undef) (by rw [tokD_len];exact h1) (fun i j hi hj=>?_) (fun i j k hi hk=>?_)
   ·rw [tokD_len] at hi;have hj4:j<4:=hj;have e:=hat i j _ (List.getElem?_eq_getElem hi) hj4;have e2:(tokV l[i])[j]? = some (tokV l[i])[j]:=List.getElem?_eq_getElem (by show j<4;exact hj4);rw [e2] at e;show Fz.cell fz g (0+i*4+j)=_;rw [Nat.zero_add,e];unfold Fz.cell;rw [hF];exact e
   ·rw [tokD_len] at hi;have ht:=List.getElem?_eq_getElem hi;rw [tokD_el ht];rw [tok_eks] at hk
    match j,hk with
    | 0,hk=>obtain rfl:=Option.some.inj hk;rw [hat i 0 _ ht (by omega)];exact .int _ (.i _)
    | 1,hk=>obtain rfl:=Option.some.inj hk;rw [hat i 1 _ ht (by omega)];exact .str (.s _)
    | 2,hk=>obtain rfl:=Option.some.inj hk;rw [hat i 2 _ ht (by omega)];exact .int _ (.i _)
    | 3,hk=>obtain rfl:=Option.some.inj hk;rw [hat i 3 _ ht (by omega)];exact .int _ (.i _)
    |j+4,hk=>simp at hk
def lexF (f:Fz) (w w':World) (A:Option Addr):Fz:=fun b=>match A with |some a=>if b=a.block/\w.heap.size<=b then cellsAt w' b else f b |none=>f b
theorem lexF_or {f:Fz} {w w':World} {A:Option Addr} {b:Nat} {cs:Array Value} (h:lexF f w w' A b=some cs):f b=some cs ∨ (w.heap.size<=b/\cellsAt w' b=some cs):=by
 unfold lexF at h
 split at h
 ·split at h
  ·rename_i hh;exact .inr ⟨hh.2,h⟩
  ·exact .inl h
 ·exact .inl h
theorem lex_ok:ConOK Tryz.prog 37 lexC:=by
 refine ⟨fun _ _=>by kernel_rfl,fun hp fr args e he hv w0 w ρ vs hw _ ha=>?_,fun _ _ _ _ h=>nomatch (con_jf _ _ _ _ _).symm.trans h⟩;unfold lexC con at he
 split at he
 ·rename_i ds ps hds
  split at he
  ·rename_i e1 he1;unfold lexS at he1
   split at he1
   ·rename_i s;obtain rfl:=Option.some.inj he1;obtain rfl:=Option.some.inj he;obtain ⟨hp1,hp2⟩:=all_append.1 hv;obtain ⟨svs,h,ρ1,id,hun,_,_,hrel⟩:=unP_spec hw [.sc .str] args _ ps hds hp1 vs ha (ids:=keepOwn hp (idsX hp args)) (fun i hi ho=>keepOwn_mem.2 ⟨hi,ho⟩) 0;obtain rfl:svs=_:=(congrArg Prod.fst (Option.some.inj hun)).symm
    match vs,hrel with
    | [x],⟨hx,_⟩=>
      have hx:x = .string s:=hx;subst hx;refine (lex_any s w hp2.1).mono ?_
      rintro en w' ⟨A,c,rfl,hown,hb⟩;have hle:FzLe ρ.fz (lexF ρ.fz w w' A):=fun b cs hbc=>by
       unfold lexF;split
       ·split
        ·rename_i hh;rw [hw.froz.new hh.2] at hbc;cases hbc
        ·exact hbc
       ·exact hbc
      have hrel2:TRel (lexF ρ.fz w w' A) (.slice 202) (tokD (lexR s).1) (.slice A (lexR s).1.length c):=lex_rel hown fun g cur hg hh hA=>by
       subst hA;show (if g=g/\w.heap.size<=g then cellsAt w' g else ρ.fz g)=some cur;rw [if_pos ⟨rfl,hg⟩];unfold cellsAt;rw [hh]
      refine ⟨{ρ with fz:=lexF ρ.fz w w' A},_,rfl,⟨_,rfl,hrel2,rfl,rfl,trivial⟩,⟨⟨fun _ _ h=>h,fun _ _=>rfl,hle,rfl,rfl⟩,fun _ _=>rfl,hb.mono (Nat.zero_le _),fun b hlt _=>hb.block b hlt,fun i x hx=>?_,fun i x hx=>?_,fun i j x y hx=>?_,fun b cs hcs=>?_,rfl⟩⟩
      ·have hx':look (kills (keepOwn hp (idsX hp args))) i=some x:=hx;rw [(kills_look hx').1];trivial
      ·cases hx
      ·cases hx
      ·rcases lexF_or hcs with h1 |⟨h1,h2⟩
       ·exact .inl h1
       ·exact .inr ⟨.inl h1,cellsAt_some h2,fun _ _ h=>by cases h⟩
   ·cases he1
  ·cases he
 ·cases he
end Go.Proofs.YtplejbgafjpomaaGreatDoor.Sx.Z
namespace Go.Proofs.YtplejbgafjpomaaGreatDoor.Sx
open Go.RowKit
inductive AM
 |c (x:AC)
 |own (e:TypeId)
 |ints (k:IntKind) (n:Nat)
def flM (hp:Heap):List AM->List Seg->Option (List Dat × List Prop × List (Option Nat))
 | [],[]=>some ([],[],[])
 | .c a::l,.c x::s=>if rowy x ||rowA a then none else (match flC hp a x,flM hp l s with
   |some (d,ps),some (ds,qs,rs)=>some (d::ds,ps++qs,rs)
   |_,_=>none)
 | .own _::l,.c .nils::s=>(match flM hp l s with |some (ds,qs,rs)=>some (.d (.l [])::ds,qs,none::rs) |none=>none)
 | .own e::l,.c (.osl e' r lo n)::s=>if Nat.beq e e' then (match look hp r,flM hp l s with
   |some (.orow e'' d),some (ds,qs,rs)=>if Nat.beq e e'' then some (.d d::ds,(lo.v=0)::(n.v=d.len)::qs,some r::rs) else none
   |_,_=>none) else none
 | .ints k n::l,.ints k' (.lit m) f::s=>if kEq k' k&&Nat.beq m n then (match flM hp l s with |some (ds,qs,rs)=>some (.f f::ds,qs,rs) |none=>none) else none
 |_,_=>none
def unM:List AM->List Dat->Nat->Option (List Seg × Heap × List Dat × Nat)
 | [],ds,id=>some ([],[],ds,id)
 | .c a::l,d::ds,id=>(match unC0 a d,unM l ds id with |some x,some (s,h,r,id')=>some (.c x::s,h,r,id') |_,_=>none)
 | .own e::l,.d d::ds,id=>(match unM l ds (id+1) with |some (s,h,r,id')=>some (.c (.osl e id (.lit 0) (.sym d.len))::s,(id,.orow e d)::h,r,id') |none=>none)
 | .ints k n::l,.f f::ds,id=>(match unM l ds id with |some (s,h,r,id')=>some (.ints k (.lit n) f::s,h,r,id') |none=>none)
 |_,_,_=>none
def someIds:List (Option Nat)->List Nat
 | []=>[]
 |some r::l=>r::someIds l
 |none::l=>someIds l
def distO:List (Option Nat)->Bool
 | []=>true
 |some r::l=>!nin r (someIds l)&&distO l
 |none::l=>distO l
theorem mem_someIds {l:List (Option Nat)} {r:Nat}:r∈someIds l ↔ ∃ a:Nat,l[a]? = some (some r):=by
 induction l with
 |nil=>simp [someIds]
 |cons x l ih=>
  cases x with
  |none=>
   simp only [someIds,ih];constructor
   ·rintro ⟨a,h⟩;exact ⟨a+1,by simpa using h⟩
   ·rintro ⟨a,h⟩
    cases a with
    |zero=>simp at h
    |succ a=>exact ⟨a,by simpa using h⟩
  |some y=>
   simp only [someIds,List.mem_cons,ih];constructor
   ·rintro (rfl |⟨a,h⟩)
    ·exact ⟨0,rfl⟩
    ·exact ⟨a+1,by simpa using h⟩
   ·rintro ⟨a,h⟩
    cases a with
    |zero=>left;simpa using h.symm
    |succ a=>exact .inr ⟨a,by simpa using h⟩
theorem nin_iff {id:Nat} {l:List Nat}:nin id l=true↔id∈l:=by
 unfold nin;rw [List.any_eq_true];exact ⟨fun ⟨x,hx,h⟩=>by rw [Nat.eq_of_beq_eq_true h];exact hx,fun h=>⟨id,h,Nat.beq_refl id⟩⟩
theorem distO_spec:∀ {l:List (Option Nat)},distO l=true->∀ (a b r:Nat),l[a]? = some (some r)->l[b]? = some (some r)->a=b
 | [],_,a,b,r,h,_=>by simp at h
 |x::l,hd,a,b,r,ha,hb=>by
  have tl:distO l=true:=by
   cases x with
   |none=>exact hd
   |some y=>simp only [distO,Bool.and_eq_true] at hd;exact hd.2
  have hd':∀ q,x=some q->∀ c:Nat,l[c]? ≠ some (some q):=fun q hq c hc=>by
   subst hq;simp only [distO,Bool.and_eq_true,Bool.not_eq_true'] at hd;have:=nin_iff.2 (mem_someIds.2 ⟨c,hc⟩);rw [hd.1] at this;cases this
  cases a with
  |zero=>
   cases b with
   |zero=>rfl
   |succ b=>exact absurd (by simpa using hb) (hd' r (by simpa using ha) b)
  |succ a=>
   cases b with
   |zero=>exact absurd (by simpa using ha) (hd' r (by simpa using hb) a)
   |succ b=>rw [distO_spec tl a b r (by simpa using ha) (by simpa using hb)]
theorem flM_row {hp:Heap}:∀ {l:List AM} {s:List Seg} {ds:List Dat} {ps:List Prop} {rs:List (Option Nat)},flM hp l s=some (ds,ps,rs)->∀ {a k:Nat},rs[a]? = some (some k)->∃ E d,look hp k=some (.orow E d)
 | [],[],ds,ps,rs,h,a,k,hk=>by
   simp only [flM,Option.some.injEq,Prod.mk.injEq] at h;obtain ⟨_,_,rfl⟩:=h;simp at hk
 | .c _::l,.c x::s,ds,ps,rs,h,a,k,hk=>by
   simp only [flM] at h
   split at h
   ·cases h
   ·split at h
    ·rename_i hds;simp only [Option.some.injEq,Prod.mk.injEq] at h;obtain ⟨_,_,rfl⟩:=h;exact flM_row hds hk
    ·cases h
 | .own e::l,.c .nils::s,ds,ps,rs,h,a,k,hk=>by
   simp only [flM] at h
   split at h
   ·rename_i hds;simp only [Option.some.injEq,Prod.mk.injEq] at h;obtain ⟨_,_,rfl⟩:=h
    cases a with
    |zero=>simp at hk
    |succ a=>exact flM_row hds (by simpa using hk)
   ·cases h
 | .own e::l,.c (.osl e' r lo n)::s,ds,ps,rs,h,a,k,hk=>by
   simp only [flM] at h
   split at h
   ·split at h
    ·rename_i hl hds
     split at h
     ·simp only [Option.some.injEq,Prod.mk.injEq] at h;obtain ⟨_,_,rfl⟩:=h
      cases a with
      |zero=>
       obtain rfl:r=k:=by simpa using hk
       exact ⟨_,_,hl⟩
      |succ a=>exact flM_row hds (by simpa using hk)
     ·cases h
    ·cases h
   ·cases h
 | .ints k n::l,.ints k' (.lit m) f::s,ds,ps,rs,h,a,q,hk=>by
   simp only [flM] at h
   split at h
   ·split at h
    ·rename_i hds;simp only [Option.some.injEq,Prod.mk.injEq] at h;obtain ⟨_,_,rfl⟩:=h;exact flM_row hds hk
    ·cases h
   ·cases h
 | [],_::_,_,_,_,h,_,_,_=>by simp [flM] at h
 | .c _::_,[],_,_,_,h,_,_,_=>by simp [flM] at h
 | .c _::_,.ints .. :: _,_,_,_,h,_,_,_=>by simp [flM] at h
 | .own _::_,[],_,_,_,h,_,_,_=>by simp [flM] at h
 | .own _::_,.ints .. :: _,_,_,_,h,_,_,_=>by simp [flM] at h
 | .own _::_,.c (.int ..)::_,_,_,_,h,_,_,_=>by simp [flM] at h
 | .own _::_,.c (.bool ..)::_,_,_,_,h,_,_,_=>by simp [flM] at h
 | .own _::_,.c (.ptr ..)::_,_,_,_,h,_,_,_=>by simp [flM] at h
 | .own _::_,.c (.slice ..)::_,_,_,_,h,_,_,_=>by simp [flM] at h
 | .own _::_,.c (.raw ..)::_,_,_,_,h,_,_,_=>by simp [flM] at h
 | .own _::_,.c (.rows ..)::_,_,_,_,h,_,_,_=>by simp [flM] at h
 | .own _::_,.c (.fp ..)::_,_,_,_,h,_,_,_=>by simp [flM] at h
 | .own _::_,.c (.optr ..)::_,_,_,_,h,_,_,_=>by simp [flM] at h
 | .ints .. :: _,[],_,_,_,h,_,_,_=>by simp [flM] at h
 | .ints .. :: _,.c _::_,_,_,_,h,_,_,_=>by simp [flM] at h
 | .ints .. :: _,.ints _ (.sym _) _::_,_,_,_,h,_,_,_=>by simp [flM] at h
def mapO (ρ:Map) (rs:List (Option Nat)) (lo:Nat) (i:Nat):Option (Nat × Nat):=if lo<=i then (match rs[i-lo]? with |some (some r)=>ρ r |_=>none) else none
def capO (ρ:Map) (rs:List (Option Nat)) (lo:Nat) (i:Nat):Nat:=match rs[i-lo]? with |some (some r)=>ρ.cap r |_=>0
theorem mapO_zero (ρ:Map) (x:Option Nat) (rs:List (Option Nat)) (lo:Nat):mapO ρ (x::rs) lo lo=(match x with |some r=>ρ r |none=>none):=by
 unfold mapO;rw [if_pos (Nat.le_refl _),Nat.sub_self]
 cases x<;>rfl
theorem mapO_succ (ρ:Map) (x:Option Nat) (rs:List (Option Nat)) {lo i:Nat} (h:lo+1<=i):mapO ρ (x::rs) lo i=mapO ρ rs (lo+1) i/\capO ρ (x::rs) lo i=capO ρ rs (lo+1) i:=by
 have e:i-lo=(i-(lo+1))+1:=by omega
 unfold mapO capO;rw [if_pos (by omega),if_pos h,e];exact ⟨rfl,rfl⟩
def Holds (ρ ρ':Map) (rs:List (Option Nat)) (lo:Nat):Prop:=FzLe ρ.fz ρ'.fz/\∀ i,lo<=i->i<lo+rs.length -> ρ' i=mapO ρ rs lo i /\ ρ'.cap i=capO ρ rs lo i
theorem unM_spec {hp:Heap} {w0:W0} {w:World} {ρ:Map} (hw:WH w0 ρ hp w):∀ (l:List AM) (s:List Seg) (ds rest:List Dat) (ps:List Prop) (rs:List (Option Nat)),flM hp l s=some (ds,ps,rs)->All ps->∀ (vs:List Value),CsRel ρ (cellsOf s) vs->∀ id,
 ∃ y h,unM l (ds++rest) id=some (y,h,rest,id+rs.length) /\
   (∀ i e,look h i=some e->id<=i/\i<id+rs.length/\∃ E d,e = .orow E d/\((mapO ρ rs id i=none/\d.len=0) ∨ ∃ r,rs[i-id]? = some (some r)/\look hp r=some (.orow E d))) /\
   ∀ ρ',Holds ρ ρ' rs id->CsRel ρ' (cellsOf y) vs
 | [],[],ds,rest,ps,rs,h,hp',vs,hv,id=>by
   simp only [flM,Option.some.injEq,Prod.mk.injEq] at h;obtain ⟨rfl,rfl,rfl⟩:=h;exact ⟨[],[],rfl,fun i e hl=>by simp [look] at hl,fun ρ' _=>⟨hv.1,fun i x v hx=>by simp [cellsOf] at hx⟩⟩
 | .c a::l,.c x::s,ds,rest,ps,rs,h,hp',vs,hv,id=>by
   simp only [flM] at h
   split at h
   ·cases h
   ·rename_i hr;have hr':rowy x=false/\rowA a=false:=by simpa using hr
    split at h
    ·rename_i d ps1 ds1 qs rs1 hd hds;simp only [Option.some.injEq,Prod.mk.injEq] at h;obtain ⟨rfl,rfl,rfl⟩:=h;obtain ⟨_,hp2⟩:=all_append.1 hp';rw [cellsOf_cons] at hv;obtain ⟨u,v,rfl,h1,h2⟩:=csrel_cons.1 hv;obtain ⟨y,hh,e1,e2,e3⟩:=unM_spec hw l s ds1 rest qs rs1 hds hp2 v h2 id;obtain ⟨z,hz,hzr⟩:=flC_unC0 hd hr'.1 hr'.2;refine ⟨.c z::y,hh,by simp [unM,e1,hz],e2,fun ρ' hρ=>?_⟩;rw [cellsOf_cons];refine csrel_cons.2 ⟨u,v,rfl,⟨h1.1,fun i p q hp hq=>?_⟩,e3 ρ' hρ⟩
     cases i with
     |zero=>
      simp only [Seg.cells,List.getElem?_cons_zero,Option.some.injEq] at hp;subst hp;exact hzr hρ.1 (h1.2 0 x q (by simp [Seg.cells]) hq)
     |succ i=>simp [Seg.cells] at hp
    ·cases h
 | .own e::l,.c .nils::s,ds,rest,ps,rs,h,hp',vs,hv,id=>by
   simp only [flM] at h
   split at h
   ·rename_i ds1 qs rs1 hds;simp only [Option.some.injEq,Prod.mk.injEq] at h;obtain ⟨rfl,rfl,rfl⟩:=h;rw [cellsOf_cons] at hv;obtain ⟨u,v,rfl,h1,h2⟩:=csrel_cons.1 hv;obtain ⟨y,hh,e1,e2,e3⟩:=unM_spec hw l s ds1 rest qs rs1 hds hp' v h2 (id+1);refine ⟨.c (.osl e id (.lit 0) (.sym (D.l []).len))::y,(id,.orow e (.l []))::hh,by simp [unM,e1];omega,fun i x hl=>?_,fun ρ' hρ=>?_⟩
    ·simp only [look] at hl
     split at hl
     ·rename_i hi;obtain rfl:id=i:=by simpa using hi
      obtain rfl:=by simpa using hl
      exact ⟨Nat.le_refl _,by simp,_,_,rfl,.inl ⟨mapO_zero ρ none rs1 id,rfl⟩⟩
     ·obtain ⟨g1,g2,E,d,g3,g4⟩:=e2 i x hl;refine ⟨by omega,by simp;omega,E,d,g3,?_⟩;rw [(mapO_succ ρ none rs1 g1).1];have e:i-id=(i-(id+1))+1:=by omega
      rw [e];exact g4
    ·rw [cellsOf_cons];refine csrel_cons.2 ⟨u,v,rfl,⟨h1.1,fun i p q hp hq=>?_⟩,e3 ρ' ⟨hρ.1,fun i g1 g2=>?_⟩⟩
     ·cases i with
      |zero=>
       simp only [Seg.cells,List.getElem?_cons_zero,Option.some.injEq] at hp;subst hp;have:=h1.2 0 .nils q (by simp [Seg.cells]) hq;obtain rfl:q=Value.slice none 0 0:=this;exact ⟨none,0,rfl,Nat.le_refl _,.inl ⟨rfl,fun _ h=>by cases h⟩⟩
      |succ i=>simp [Seg.cells] at hp
     ·have:=hρ.2 i (by omega) (by simp;omega);obtain ⟨m1,m2⟩:=mapO_succ ρ none rs1 g1;rw [m1,m2] at this;exact this
   ·cases h
 | .own e::l,.c (.osl e' r lo n)::s,ds,rest,ps,rs,h,hp',vs,hv,id=>by
   simp only [flM] at h
   split at h
   ·rename_i he;obtain rfl:=Nat.eq_of_beq_eq_true he
    split at h
    ·rename_i e'' d ds1 qs rs1 hl hds
     split at h
     ·rename_i he2;obtain rfl:=Nat.eq_of_beq_eq_true he2;simp only [Option.some.injEq,Prod.mk.injEq] at h;obtain ⟨rfl,rfl,rfl⟩:=h;obtain ⟨hlo,hn,hp2⟩:=hp';rw [cellsOf_cons] at hv;obtain ⟨u,v,rfl,h1,h2⟩:=csrel_cons.1 hv;obtain ⟨y,hh,e1,e2,e3⟩:=unM_spec hw l s ds1 rest qs rs1 hds hp2 v h2 (id+1);refine ⟨.c (.osl e id (.lit 0) (.sym d.len))::y,(id,.orow e d)::hh,by simp [unM,e1];omega,fun i x hl'=>?_,fun ρ' hρ=>?_⟩
      ·simp only [look] at hl'
       split at hl'
       ·rename_i hi;obtain rfl:id=i:=by simpa using hi
        obtain rfl:=by simpa using hl'
        refine ⟨Nat.le_refl _,by simp,_,_,rfl,.inr ⟨r,by simp,hl⟩⟩
       ·obtain ⟨g1,g2,E,d',g3,g4⟩:=e2 i x hl';refine ⟨by omega,by simp;omega,E,d',g3,?_⟩;rw [(mapO_succ ρ (some r) rs1 g1).1];have e:i-id=(i-(id+1))+1:=by omega
        rw [e];exact g4
      ·rw [cellsOf_cons];refine csrel_cons.2 ⟨u,v,rfl,⟨h1.1,fun i p q hp hq=>?_⟩,e3 ρ' ⟨hρ.1,fun i g1 g2=>?_⟩⟩
       ·cases i with
        |zero=>
         simp only [Seg.cells,List.getElem?_cons_zero,Option.some.injEq] at hp;subst hp;obtain ⟨A,c,rfl,hc,hA⟩:=h1.2 0 (.osl e r lo n) q (by simp [Seg.cells]) hq;have hm:=hρ.2 id (Nat.le_refl _) (by simp);rw [mapO_zero] at hm;have hcap:ρ'.cap id=ρ.cap r:=by rw [hm.2];unfold capO;rw [Nat.sub_self];rfl
         refine ⟨A,c,by rw [hn];rfl,by show d.len<=c;omega,hA.imp (fun h=>h) fun ⟨q1,q2,q3⟩=>⟨?_,?_,?_⟩⟩
         ·rw [q1,hlo];have:ρ'.blk id=ρ.blk r:=by unfold Map.blk;rw [hm.1]
          rw [this];rfl
         ·rw [hcap];rw [hlo] at q2;exact q2
         ·rw [hm.1];exact q3
        |succ i=>simp [Seg.cells] at hp
       ·have:=hρ.2 i (by omega) (by simp;omega);obtain ⟨m1,m2⟩:=mapO_succ ρ (some r) rs1 g1;rw [m1,m2] at this;exact this
     ·cases h
    ·cases h
   ·cases h
 | .ints k n::l,.ints k' (.lit m) f::s,ds,rest,ps,rs,h,hp',vs,hv,id=>by
   simp only [flM] at h
   split at h
   ·rename_i hk;simp only [Bool.and_eq_true] at hk;have:=kEq_eq hk.1;subst this;have:=Nat.eq_of_beq_eq_true hk.2;subst this
    split at h
    ·rename_i ds1 qs rs1 hds;simp only [Option.some.injEq,Prod.mk.injEq] at h;obtain ⟨rfl,rfl,rfl⟩:=h;rw [cellsOf_cons] at hv;obtain ⟨u,v,rfl,h1,h2⟩:=csrel_cons.1 hv;obtain ⟨y,hh,e1,e2,e3⟩:=unM_spec hw l s ds1 rest qs rs1 hds hp' v h2 id;refine ⟨.ints k' (.lit m) f::y,hh,by simp [unM,e1],e2,fun ρ' hρ=>?_⟩;rw [cellsOf_cons];refine csrel_cons.2 ⟨u,v,rfl,⟨h1.1,fun i p q hp hq=>?_⟩,e3 ρ' hρ⟩;have hb':=h1.2 i p q hp hq;have hi:=lt_of_get hp;rw [cells_ints_len] at hi;rw [cells_ints_get hi] at hp;obtain rfl:=by simpa using hp
     exact hb'
    ·cases h
   ·cases h
 | [],_::_,_,_,_,_,h,_,_,_,_=>by simp [flM] at h
 | .c _::_,[],_,_,_,_,h,_,_,_,_=>by simp [flM] at h
 | .c _::_,.ints .. :: _,_,_,_,_,h,_,_,_,_=>by simp [flM] at h
 | .own _::_,[],_,_,_,_,h,_,_,_,_=>by simp [flM] at h
 | .own _::_,.ints .. :: _,_,_,_,_,h,_,_,_,_=>by simp [flM] at h
 | .own _::_,.c (.int ..)::_,_,_,_,_,h,_,_,_,_=>by simp [flM] at h
 | .own _::_,.c (.bool ..)::_,_,_,_,_,h,_,_,_,_=>by simp [flM] at h
 | .own _::_,.c (.ptr ..)::_,_,_,_,_,h,_,_,_,_=>by simp [flM] at h
 | .own _::_,.c (.slice ..)::_,_,_,_,_,h,_,_,_,_=>by simp [flM] at h
 | .own _::_,.c (.raw ..)::_,_,_,_,_,h,_,_,_,_=>by simp [flM] at h
 | .own _::_,.c (.rows ..)::_,_,_,_,_,h,_,_,_,_=>by simp [flM] at h
 | .own _::_,.c (.fp ..)::_,_,_,_,_,h,_,_,_,_=>by simp [flM] at h
 | .own _::_,.c (.optr ..)::_,_,_,_,_,h,_,_,_,_=>by simp [flM] at h
 | .ints .. :: _,[],_,_,_,_,h,_,_,_,_=>by simp [flM] at h
 | .ints .. :: _,.c _::_,_,_,_,_,h,_,_,_,_=>by simp [flM] at h
 | .ints .. :: _,.ints _ (.sym _) _::_,_,_,_,_,h,_,_,_,_=>by simp [flM] at h
theorem crel_mu {ρ:Map} (mu:Nat->Bool) {x:SC} {v:Value} (h:CRel ρ x v):CRel {ρ with mu:=mu} x v:=by cases x<;>exact h
theorem csrel_mu {ρ:Map} (mu:Nat->Bool) {l:List SC} {vs:List Value} (h:CsRel ρ l vs):CsRel {ρ with mu:=mu} l vs:=⟨h.1,fun i x v a b=>crel_mu mu (h.2 i x v a b)⟩
theorem v1_mu {ρ:Map} (mu:Nat->Bool) {x:V1} {v:Value} (h:V1Rel ρ x v):V1Rel {ρ with mu:=mu} x v:=by
 cases x with
 |sc c=>exact crel_mu mu h
 |agg l=>obtain ⟨cs,rfl,hc⟩:=h;exact ⟨cs,rfl,csrel_mu mu hc⟩
theorem tup_mu {ρ:Map} (mu:Nat->Bool):∀ {l:List V1} {vs:List Value},TupRel ρ l vs->TupRel {ρ with mu:=mu} l vs
 | [],[],_=>trivial
 | [],_::_,h=>h.elim
 |_::_,[],h=>h.elim
 |_::_,_::_,h=>⟨v1_mu mu h.1,tup_mu mu h.2⟩
theorem args_mu {ρ:Map} (mu:Nat->Bool):∀ {l:List SV} {vs:List Value},ArgsRel ρ l vs->ArgsRel {ρ with mu:=mu} l vs
 | [],[],_=>trivial
 | [],_::_,h=>h.elim
 |_::_,[],h=>h.elim
 |x::_,_::_,h=>⟨by
   have h1:=h.1
   cases x with
   |one x=>exact v1_mu mu h1
   |tup l=>obtain ⟨vs,rfl,ht⟩:=h1;exact ⟨vs,rfl,tup_mu mu ht⟩
   |cond=>exact h1.elim
   |junk=>exact h1.elim,args_mu mu h.2⟩
def disI (a b:List Nat):Bool:=a.all fun x=>!nin x b
theorem disI_spec {a b:List Nat} (h:disI a b=true) {x:Nat} (hx:x∈a):x ∉ b:=fun hb=>by
 have:=List.all_eq_true.1 h x hx;rw [nin_iff.2 hb] at this;cases this
def conMb (T:TypeId) (ms:List AM) (aps:List AP) (spec:List Dat->Option (Eff × List Seg)) (hp:Heap) (fr id:Nat) (rest:List SV):Option Eff:=match look hp id with
 |some (.own T' segs)=>if Nat.beq T T' then (match flM hp ms segs,flP hp aps rest with
  |some (ds1,ps1,rs),some (ds2,ps2)=>if distO rs && !nin id (someIds rs)&&disI (idsX hp rest) (id::someIds rs) then (match spec (ds1++ds2) with
   |some (e,sg)=>some {val:=e.val.sh fr,nw:=shH fr e.nw,vc:=ps1++(ps2++e.vc),st:=(id,.own T (shS fr sg))::(kills (someIds rs)++(if plainE (e.sh fr)&&plainS (shS fr sg) then [] else kills (keepOwn hp (idsX hp rest))))}
   |none=>none) else none
  |_,_=>none) else none
 |_=>none
def conM (T:TypeId) (ms:List AM) (aps:List AP) (spec:List Dat->Option (Eff × List Seg)):Con:=fun hp fr args=>match args with
 | .one (.sc (.ptr id (.lit 0)))::rest=>conMb T ms aps spec hp fr id rest
 |_=>none
def retM (tt:TT) (rs:List ResultVar) (e:Eff) (T:TypeId) (sg:List Seg):Ex->St->Prop:=fun x s=>
 match x with
 | .exit _=>False
 |_=>(match resS tt s rs with
  |some (v,ps)=>AllK ps (match frzSV s.hp v e.val with
   |(v,fs,ids)=>AllK fs (
    let ids:=keepOwn s.hp ids
    let t:=(8,.own T sg)::e.nw
    let δ:=mHeap (kills ids++s.hp) t ((8,0)::mSV v e.val)
    match svL δ 9 v e.val,heapL δ 9 s.nx (kills ids++s.hp) t with
    |some a,some b=>if injOK δ t&&newOK (keys e.nw) 0 e.nw&&svIn (keys e.nw) e.val&&(segsIn (keys e.nw) sg&&Nat.beq (dm δ 8) 0) then Conj (a++b) else False
    |_,_=>False))
  |none=>False)
theorem wh_noanc {w:World} {f0:Fz} {mu:Nat->Bool} {an:Option (Nat × Nat)} {ρ:Map} {h:Heap} {w':World} (hw:WH ⟨w,f0,mu,an⟩ ρ h w'):WH ⟨w,f0,mu,none⟩ ρ h w':=
 ⟨hw.below,hw.ents,hw.apart,hw.froz,hw.sub,hw.mu0,hw.f00,hw.old,fun _ h=>(by cases h),hw.tab,hw.lin⟩
theorem fn_okM {P:Program} {tt:TT} (htt:TTOK P tt) (hm:P.follows .mixedOrders=true) {f:FuncId} {fn:Func} {c:Code} (hf:P.funcs[f]? = some fn) (hb:fn.body=some c) (hen:∀ (args:Array Value) (w:World),(callFunc f args).run P w = .ok (.enter f args) w)
 {A:List Dat->Ann} (hC:∀ ds id,CtxOK P ((A ds).C id)) {T:TypeId} {ms:List AM} {aps:List AP} {spec:List Dat->Option (Eff × List Seg)} (hn:Nat.ble (aps.length+1) fn.ntmps=true)
 (H:∀ ds e sg sM hM rest id1 svs h id,spec ds=some (e,sg)->All e.vc->unM ms ds 1=some (sM,hM,rest,id1)->unP aps rest id1=some (svs,h,id) ->
   sx tt fn.ntmps (A ds) (LFb true) c (retM tt fn.results.toList e T sg) {tm:=slots0 (.one (.sc (.ptr 0 (.lit 0)))::svs) 0,hp:=(0,.own T sM)::(hM++h),nx:=id}):ConOK P f (conM T ms aps spec):=by
 refine ⟨hen,?_,fun hp fr caps e h=>by cases h⟩;intro hp fr args e0 h0 hvc w0 w ρ vs hw hfr hargs;unfold conM at h0
 split at h0
 ·rename_i id rest;unfold conMb at h0
  split at h0
  ·rename_i T' segs hlk
   split at h0
   ·rename_i hTT;obtain rfl:=Nat.eq_of_beq_eq_true hTT
    split at h0
    ·rename_i ds1 ps1 rs ds2 ps2 hflM hflP
     split at h0
     ·rename_i hck;simp only [Bool.and_eq_true,Bool.not_eq_true'] at hck;obtain ⟨⟨hdist,hnid⟩,hdis⟩:=hck
      split at h0
      ·rename_i e sg hspec;obtain rfl:=Option.some.inj h0;obtain ⟨hpM,hp2⟩:=all_append.1 hvc;obtain ⟨hpP,hpE⟩:=all_append.1 hp2
       cases vs with
       |nil=>exact hargs.elim
       |cons v0 vr=>
        obtain ⟨⟨hid,hv0⟩,hargs⟩:=hargs;obtain ⟨_,hoff,hMine,vs0,hcs0,hheap⟩:=hw.ents id _ hlk;have hnid':id ∉ someIds rs:=fun h=>by rw [nin_iff.2 h] at hnid;cases hnid
        obtain ⟨sM,hM,hunM,hMe,hMc⟩:=unM_spec hw ms segs ds1 ds2 ps1 rs hflM hpM vs0 hcs0 1;have hidsAll:∀ i∈idsX hp rest,ownId hp i=true->i∈keepOwn hp (idsX hp rest):=fun i hi ho=>keepOwn_mem.2 ⟨hi,ho⟩
        obtain ⟨svs,h,ρ1,idE,hun,hleE,hin,hrel⟩:=unP_spec hw aps rest ds2 ps2 hflP hpP vr hargs hidsAll (1+rs.length);have hsx:=H (ds1++ds2) e sg sM hM ds2 _ svs h idE hspec hpE hunM hun;have hlen:vr.length+1<=fn.ntmps:=by
         have h1:=unP_len aps ds2 _ svs h idE hun;have h2:=args_len hrel;have:=Nat.le_of_ble_eq_true hn;omega
        have hsz:((v0::vr).toArray++Array.replicate (fn.ntmps-(v0::vr).toArray.size) undef).size=fn.ntmps:=by simp;omega
        have own_k:∀ k∈id::someIds rs,(ρ k).isSome=true->∃ x,look hp k=some x/\x.isOwn=true:=fun k hk hks=>by
         rcases List.mem_cons.1 hk with rfl |hk
         ·exact ⟨_,hlk,rfl⟩
         ·obtain ⟨a,ha⟩:=mem_someIds.1 hk;have:∃ E d,look hp k=some (.orow E d):=flM_row hflM ha;obtain ⟨E,d,hl⟩:=this;exact ⟨_,hl,rfl⟩
        have fzNone:∀ k∈id::someIds rs,(ρ k).isSome=true->passF ρ w (keepOwn hp (idsX hp rest)) (ρ.blk k)=none:=fun k hk hks=>by
         cases hc:passF ρ w (keepOwn hp (idsX hp rest)) (ρ.blk k) with
         |none=>rfl
         |some cs=>
          exfalso;obtain ⟨x,hx,hxo⟩:=own_k k hk hks
          rcases passF_some hc with h1 |⟨⟨j,hj,hjs,hjb⟩,_⟩
          ·have:=(erel_some (hw.ents k x hx) hxo hks).1.2;rw [h1] at this;cases this
          ·obtain ⟨hj1,hj2⟩:=keepOwn_mem.1 hj;unfold ownId at hj2
           split at hj2
           ·rename_i y hy;exact hw.apart j k y x hy hx hj2 hxo (fun e=>disI_spec hdis hj1 (e ▸ hk)) hjs hks hjb
           ·cases hj2
        generalize hF:passF ρ w (keepOwn hp (idsX hp rest))=F at *
        let mu:Nat->Bool:=fun b=>inIds ρ b (id::someIds rs)
        have muK:∀ k∈id::someIds rs,(ρ k).isSome=true->mu (ρ.blk k)=true:=fun k hk hks=>inIds_iff.2 ⟨k,hk,hks,rfl⟩
        let ρc:Map:={m:=fun i=>if i=0 then some (ρ.blk id,0) else if i<1+rs.length then mapO ρ rs 1 i else ρ1 i,cap:=fun i=>if i<1+rs.length then capO ρ rs 1 i else ρ1.cap i,fz:=F,f0:=F,mu:=mu,kid:=ρ.kid}
        have c0:ρc 0=some (ρ.blk id,0):=rfl;have cM:∀ i,1<=i->i<1+rs.length -> ρc i=mapO ρ rs 1 i /\ ρc.cap i=capO ρ rs 1 i:=fun i g1 g2=>by
         refine ⟨?_,?_⟩
         ·show (if i=0 then some (ρ.blk id,0) else if i<1+rs.length then mapO ρ rs 1 i else ρ1 i)=_;rw [if_neg (by omega),if_pos g2]
         ·show (if i<1+rs.length then capO ρ rs 1 i else ρ1.cap i)=_;rw [if_pos g2]
        have cH:∀ i,1+rs.length<=i -> ρc i=ρ1 i /\ ρc.cap i=ρ1.cap i:=fun i g=>by
         refine ⟨?_,?_⟩
         ·show (if i=0 then some (ρ.blk id,0) else if i<1+rs.length then mapO ρ rs 1 i else ρ1 i)=_;rw [if_neg (by omega),if_neg (by omega)]
         ·show (if i<1+rs.length then capO ρ rs 1 i else ρ1.cap i)=_;rw [if_neg (by omega)]
        have hfzle:FzLe ρ.fz F:=by rw [<- hF];exact passF_le ρ w _
        have holds:Holds ρ ρc rs 1:=⟨hfzle,fun i g1 g2=>cM i g1 g2⟩;have ext1:Ext {ρ1 with mu:=mu} ρc:=by
         have ge:∀ i,(ρ1 i).isSome=true->1+rs.length<=i:=fun i hi=>by
          rcases Nat.lt_or_ge i (1+rs.length) with h |h
          ·rw [hin.out i (.inl h)] at hi;cases hi
          ·exact h
         refine ⟨fun i p hi=>?_,fun i hi=>?_,fun b cs hc=>?_,rfl,?_⟩
         ·have hi:ρ1 i=some p:=hi;rw [(cH i (ge i (by rw [hi];rfl))).1];exact hi
         ·exact (cH i (ge i hi)).2
         ·have hc:ρ1.fz b=some cs:=hc;rw [hin.hfz] at hc;exact hc
         ·show F=ρ1.f0;rw [hin.hf0]
        have hargsC:ArgsRel ρc (.one (.sc (.ptr 0 (.lit 0)))::svs) (v0::vr):=by
         refine ⟨⟨rfl,?_⟩,args_ext ext1 (args_mu mu hrel)⟩;rw [hv0];simp only [Map.at,SO.v,hoff];rfl
        have lookT:∀ i x,look ((0,Ent.own T sM)::(hM++h)) i=some x->(i=0/\x = .own T sM) ∨ (1<=i/\i<1+rs.length/\look hM i=some x) ∨ (1+rs.length<=i/\i<idE/\look h i=some x):=fun i x hx=>by
         simp only [look] at hx
         split at hx
         ·rename_i hi;exact .inl ⟨(by simpa using hi:0=i).symm,by simpa using hx.symm⟩
         ·rw [look_append] at hx
          cases hl:look hM i with
          |some y=>
           rw [hl] at hx;obtain rfl:=by simpa using hx
           obtain ⟨g1,g2,_⟩:=hMe i y hl;exact .inr (.inl ⟨g1,g2,rfl⟩)
          |none=>
           rw [hl] at hx;obtain ⟨_,_,g1,g2⟩:=hin.ents i x hx;exact .inr (.inr ⟨g1,g2,hx⟩)
        have src:∀ i x,look ((0,Ent.own T sM)::(hM++h)) i=some x->x.isOwn=true->(ρc i).isSome=true->∃ k∈id::someIds rs,(ρ k).isSome=true /\ ρc.blk i=ρ.blk k/\((i=0/\k=id) ∨ (1<=i/\rs[i-1]? = some (some k))):=fun i x hx ho hi=>by
         rcases lookT i x hx with ⟨rfl,_⟩ |⟨g1,g2,hl⟩ |⟨g1,g2,hl⟩
         ·exact ⟨id,List.mem_cons_self ..,hid,rfl,.inl ⟨rfl,rfl⟩⟩
         ·obtain ⟨_,_,E,d,rfl,h1⟩:=hMe i x hl;rw [(cM i g1 g2).1] at hi
          rcases h1 with ⟨h1,_⟩ |⟨r,h1,h2⟩
          ·rw [h1] at hi;cases hi
          ·have hm:mapO ρ rs 1 i=ρ r:=by unfold mapO;rw [if_pos g1,h1]
           refine ⟨r,List.mem_cons_of_mem _ (mem_someIds.2 ⟨_,h1⟩),by rw [<- hm];exact hi,?_,.inr ⟨g1,h1⟩⟩;unfold Map.blk;rw [(cM i g1 g2).1,hm]
         ·have:=(hin.ents i x hl).2.1;rw [this] at ho;cases ho
        have hwh:WH ⟨w,F,mu,some (ρ.blk id,0)⟩ ρc ((0,.own T sM)::(hM++h)) w:=by
         refine ⟨BelowM.refl _ _ _,fun i x hx=>?_,fun i j x y hx hy hxo hyo hne hi hj=>?_,fun b cs hb=>?_,fun _ _ h=>h,rfl,rfl,fun b cs hb=>.inl hb,fun p hp=>hp,by rw [<- hF];exact hw.tabP _,lin_no fun i c e d g hl=>?_⟩
         ·rcases lookT i x hx with ⟨rfl,rfl⟩ |⟨g1,g2,hl⟩ |⟨g1,g2,hl⟩
          ·exact ⟨rfl,rfl,⟨.inr (muK id (List.mem_cons_self ..) hid),fzNone id (List.mem_cons_self ..) hid⟩,vs0,hMc ρc holds,hheap⟩
          ·obtain ⟨_,_,E,d,rfl,h1⟩:=hMe i x hl
           rcases h1 with ⟨h1,h2⟩ |⟨r,h1,h2⟩
           ·exact .inl ⟨by rw [(cM i g1 g2).1];exact h1,h2⟩
           ·have hm:mapO ρ rs 1 i=ρ r:=by unfold mapO;rw [if_pos g1,h1]
            have hcp:capO ρ rs 1 i=ρ.cap r:=by unfold capO;rw [h1]
            have hr:r∈id::someIds rs:=List.mem_cons_of_mem _ (mem_someIds.2 ⟨_,h1⟩)
            rcases hw.ents r _ h2 with ⟨q1,q2⟩ |⟨q1,q2,q3,q4⟩
            ·exact .inl ⟨by rw [(cM i g1 g2).1,hm];exact q1,q2⟩
            ·have hbk:ρc.blk i=ρ.blk r:=by unfold Map.blk;rw [(cM i g1 g2).1,hm]
             refine .inr ⟨by rw [(cM i g1 g2).1,hm];exact q1,by unfold Map.off;rw [(cM i g1 g2).1,hm];exact q2,by rw [hbk];exact ⟨.inr (muK r hr q1),fzNone r hr q1⟩,?_⟩;rw [hbk,(cM i g1 g2).2,hcp];exact rowAt_mono hfzle rfl q4
          ·obtain ⟨he,ho,_,_⟩:=hin.ents i x hl
           cases x with
           |own=>cases ho
           |row=>cases ho
           |orow=>cases ho
           |nrow=>cases ho
           |gone=>trivial
           |ro l=>
            obtain ⟨q1,us,q2,q3⟩:=he 0 w;refine ⟨by rw [(cH i g1).1];exact q1,us,csrel_ext ext1 (csrel_mu mu q2),fun o v hv=>?_⟩;have:=q3 o v hv;rw [hin.hfz] at this;unfold Map.blk Map.off at this ⊢;rw [(cH i g1).1];exact this
         ·obtain ⟨k,hk,hks,hkb,hki⟩:=src i x hx hxo hi;obtain ⟨l,hl,hls,hlb,hlj⟩:=src j y hy hyo hj;rw [hkb,hlb];obtain ⟨x',hx',hxo'⟩:=own_k k hk hks;obtain ⟨y',hy',hyo'⟩:=own_k l hl hls;refine hw.apart k l x' y' hx' hy' hxo' hyo' (fun e=>?_) hks hls;subst e
          rcases hki with ⟨rfl,rfl⟩ |⟨a1,a2⟩<;>rcases hlj with ⟨rfl,b1⟩ |⟨b1,b2⟩
          ·exact hne rfl
          ·exact hnid' (mem_someIds.2 ⟨_,b2⟩)
          ·subst b1;exact hnid' (mem_someIds.2 ⟨_,a2⟩)
          ·have:=distO_spec hdist _ _ _ a2 b2;omega
         ·have hb:F b=some cs:=hb;rw [<- hF] at hb;exact passF_froz hw.froz hb
         ·rcases lookT i _ hl with ⟨_,h0⟩ |⟨_,_,hl'⟩ |⟨_,_,hl'⟩
          ·cases h0
          ·obtain ⟨_,_,E,d',h0,_⟩:=hMe i _ hl'
           cases h0
          ·have:=(hin.ents i _ hl').2.1
           cases this
        refine calls_of_wp hf hb ?_
        refine sx_spec htt hm (hC _) (w0:=⟨w,F,mu,some (ρ.blk id,0)⟩) (lfb_spec (fun _=>rfl)) c _ _ hsx _ ?_ ρc _ w ⟨⟨hsz,rfl,?_⟩,hwh,fun i hi=>by rw [(cH i (by show 1+rs.length<=i;have:idE<=i:=hi;omega)).1];exact hin.out i (.inr hi)⟩
        ·intro ex xx s' ρ' a w' hex hk hs';have done:retM tt fn.results.toList e T sg .ret s'->a.defers=[]/\∃ v,(results fn a.tmps).run P w' = .ok v w'/\∃ ρ'' u,Ending.returned v = .returned u/\UR ρ'' (e.val.sh fr) u/\Fr w0.heap.size ρ ρ'' w w' {val:=e.val.sh fr,nw:=shH fr e.nw,vc:=ps1++(ps2++e.vc),st:=(id,.own T (shS fr sg))::(kills (someIds rs)++(if plainE (e.sh fr)&&plainS (shS fr sg) then [] else kills (keepOwn hp (idsX hp rest))))}:=by
          intro hk;simp only [retM] at hk
          split at hk
          ·rename_i v qs hres;rw [allK_iff] at hk;obtain ⟨hq,hk⟩:=hk;generalize hfrz:frzSV s'.hp v e.val=fz3 at hk;obtain ⟨v',fs,ids⟩:=fz3;dsimp only at hk;rw [allK_iff] at hk;obtain ⟨hfs,hk⟩:=hk
           split at hk
           rename_i la lb hla hlb
           split at hk
           rename_i hok;obtain ⟨hk1,hk2⟩:=all_append.1 (conj_all hk);obtain ⟨u,hu1,hu2⟩:=resS_spec htt hs' hres hq;have hu2':=frzSV_spec hs'.mem hfrz hfs (fun i hi ho=>keepOwn_mem.2 ⟨hi,ho⟩) hu2;have hfr0:=fr_freeze (B:=w.heap.size) hs'.mem.froz (keepOwn s'.hp ids) .junk [];have hmem':WH ⟨w,F,mu,some (ρ.blk id,0)⟩ (ρ'.frz w' (keepOwn s'.hp ids)) (kills (keepOwn s'.hp ids)++s'.hp) w':=by
            have:=wh_step hs'.mem hfr0 (fun i x hx=>stOK_kills i x hx) (fun _ _ h=>by simp [look] at h);exact this
           have hanc:(ρ'.frz w' (keepOwn s'.hp ids)) 0=some (ρ.blk id,0):=hmem'.anc _ rfl;have hs2:SH ⟨w,F,mu,none⟩ 0 {tm:=[],hp:=kills (keepOwn s'.hp ids)++s'.hp,nx:=s'.nx} (ρ'.frz w' (keepOwn s'.hp ids)) {a with tmps:=#[]} w':=⟨⟨rfl,hs'.slots.defers,fun t x hx=>by simp [look] at hx⟩,wh_noanc hmem',hs'.fresh⟩;generalize hρ3:ρ'.frz w' (keepOwn s'.hp ids)=ρ3 at hu2' hmem' hs2 hanc;have hle:=svL_spec hla hk1;have hhe:=heapL_spec hlb hk2;generalize mHeap (kills (keepOwn s'.hp ids)++s'.hp) ((8,.own T sg)::e.nw) ((8,0)::mSV v' e.val)=δ at *;simp only [Bool.and_eq_true] at hok;obtain ⟨⟨⟨hinj,hnew⟩,hsv⟩,hsg,hd8⟩:=hok;have hd8:=Nat.eq_of_beq_eq_true hd8;have hnj:e.val ≠ .junk:=fun hj=>by rw [hj] at hsv;cases hsv
           have hu3:=ur_le hle hu2' hnj;have hw2:=(stLe_spec (δ:=δ) (t:={tm:=[],hp:=(8,.own T sg)::e.nw,nx:=9}) ⟨trivial,hhe,hinj⟩ (fun h=>by cases h) hs2).mem;have hB:w0.heap.size<=w.heap.size:=hw.below.size;have h8:(ρ3.ren δ 9) 8=some (ρ.blk id,0):=by
            simp only [Map.ren];rw [if_pos (by decide),hd8];exact hanc
           generalize hρr:ρ3.ren δ 9=ρr at hu3 hw2 h8;have hmu:ρr.mu=mu:=by rw [<- hρr,<- hρ3];exact hs'.mem.mu0
           have hf0:ρr.f0=F:=by rw [<- hρr,<- hρ3];exact hs'.mem.f00
           replace hu3:=ur_sh (n:=fr) hu3
           replace hw2:=wh_sh fr rfl hw2
           replace hnew:=newOK_sh (n:=fr) hnew
           replace hsv:=svIn_sh (n:=fr) hsv
           replace hsg:=segsIn_sh (n:=fr) hsg
           replace hmu:(ρr.sh fr).mu=mu:=hmu
           replace hf0:(ρr.sh fr).f0=F:=hf0
           replace h8:(ρr.sh fr) (fr+8)=some (ρ.blk id,0):=by rw [sh_at];exact h8
           clear hρr hinj hnj hle hhe;generalize ρr.sh fr=ρr at *;have hw2:WH ⟨w,F,mu,none⟩ ρr ((fr+8,.own T (shS fr sg))::shH fr e.nw) w':=hw2;generalize hNW:shH fr e.nw=nw at *;generalize hSG:shS fr sg=sg' at *;generalize hVL:e.val.sh fr=vl at *;generalize hPL:(plainE (e.sh fr)&&plainS sg')=pl at *;have plOK:pl=true->plainSV vl=true/\plainH nw=true/\plainS sg'=true:=fun hpl=>by
            rw [<- hPL] at hpl;simp only [Bool.and_eq_true] at hpl;have h1:plainE (e.sh fr)=true:=hpl.1;unfold plainE at h1;simp only [Bool.and_eq_true] at h1;exact ⟨by rw [<- hVL];exact h1.1,by rw [<- hNW];exact h1.2,hpl.2⟩
           have look2:∀ i x,look nw i=some x->look ((fr+8,Ent.own T sg')::nw) i=some x:=fun i x hx=>by
            obtain ⟨_,_,h2,_⟩:=newOK_spec hnew i x hx;simp only [look];rw [if_neg (by simp;omega)];exact hx
           have lookS:look ((fr+8,Ent.own T sg')::nw) (fr+8)=some (.own T sg'):=by simp [look]
           obtain ⟨e1s,e2s,e3s,us,e4s,e5s⟩:=hw2.ents _ _ lookS;have hb8:ρr.blk (fr+8)=ρ.blk id:=by simp [Map.blk,h8]
           have ho8:ρr.off (fr+8)=0:=by simp [Map.off,h8]
           rw [hb8] at e3s e5s
           let ST:Heap:=(id,.own T sg')::(kills (someIds rs)++(if pl then [] else kills (keepOwn hp (idsX hp rest))))
           have stRow:∀ k,k∈someIds rs->look ST k=some .gone:=fun k hk=>by
            simp only [ST,look];rw [if_neg (by simp;rintro rfl;exact hnid' hk),look_append,kills_mem hk]
           have stKeep:pl=false->∀ k,k∈keepOwn hp (idsX hp rest)->look ST k=some .gone:=fun hpl k hk=>by
            have hne:id≠k:=fun h=>disI_spec hdis (keepOwn_mem.1 hk).1 (h ▸ List.mem_cons_self ..)
            simp only [ST,look];rw [if_neg (by simpa using hne),look_append]
            cases hq:look (kills (someIds rs)) k with
            |some y=>rw [(kills_look hq).1]
            |none=>simp only [hpl];exact kills_mem hk
           let ρ2:Map:={m:=fun i=>if nin i (keys nw) then ρr i else ρ i,cap:=fun i=>if nin i (keys nw) then ρr.cap i else ρ.cap i,fz:=if pl then ρ.fz else ρr.fz,f0:=ρ.f0,mu:=ρ.mu,kid:=ρ.kid}
           have ag:∀ i,nin i (keys nw)=true -> ρ2 i=ρr i /\ ρ2.cap i=ρr.cap i:=fun i hi=>⟨by simp only [ρ2];rw [if_pos hi],by simp only [ρ2];rw [if_pos hi]⟩
           have off:∀ i,nin i (keys nw)=false -> ρ2 i=ρ i:=fun i hi=>by simp only [ρ2];rw [if_neg (by rw [hi];simp)]
           have oldKey:∀ i,(ρ i).isSome=true->nin i (keys nw)=false:=fun i hi=>by
            cases hn:nin i (keys nw) with
            |false=>rfl
            |true=>
             obtain ⟨x,hx⟩:=Option.isSome_iff_exists.1 (nin_keys.1 hn);rw [hfr i x hx] at hi;cases hi
           have fzle:FzLe ρ.fz ρr.fz:=fun b cs hb=>hw2.sub b cs (by rw [hf0];exact hfzle b cs hb)
           have ownNew:∀ i x,look nw i=some x->(ρr i).isSome=true->(w.heap.size<=ρr.blk i ∨ Killed ρ ST (ρr.blk i)) /\ ρr.fz (ρr.blk i)=none /\ ρr.blk i≠ρ.blk id:=fun i x hx hi=>by
            obtain ⟨ho,_,hlt,_⟩:=newOK_spec hnew i x hx;obtain ⟨hM,_⟩:=erel_some (hw2.ents i x (look2 i x hx)) (Ent.pl_own ho) hi;have hne:ρr.blk i≠ρ.blk id:=by
             rw [<- hb8];exact hw2.apart i (fr+8) x _ (look2 i x hx) lookS (Ent.pl_own ho) rfl (by omega) hi e1s
            refine ⟨?_,hM.2,hne⟩
            rcases hM.1 with h |h
            ·exact .inl h
            ·rw [hmu] at h;obtain ⟨k,hk,hks,hkb⟩:=inIds_iff.1 h
             rcases List.mem_cons.1 hk with rfl |hk
             ·exact absurd hkb.symm hne
             ·exact .inr ⟨k,stRow k hk,hks,hkb.symm⟩
           have blk2:∀ i,nin i (keys nw)=true -> ρ2.blk i=ρr.blk i:=fun i hi=>by simp [Map.blk,(ag i hi).1]
           have hzz:ρ2.fz=ρr.fz ∨ pl=true:=by
            cases hpl:pl with
            |true=>exact .inr rfl
            |false=>left;simp only [ρ2,hpl];rfl
           have hidB:ρ2 id=ρ id:=off id (oldKey id hid);have hbid:ρ2.blk id=ρ.blk id:=by simp [Map.blk,hidB]
           refine ⟨hs'.slots.defers,u,hu1,ρ2,u,rfl,ur_in ag (hzz.imp (fun h=>h) fun h=>(plOK h).1) hsv hu3,?_⟩;refine ⟨⟨fun i p hi=>?_,fun i hi=>?_,?_,rfl,rfl⟩,fun i hi=>?_,⟨hs'.mem.below.os,hs'.mem.below.tape,hs'.mem.below.output,hs'.mem.below.size,fun k hk=>absurd hk (Nat.not_lt_zero k)⟩,fun b hb' hno=>hs'.mem.below.block b hb' ?_,fun i x hx=>?_,fun i x hx=>?_,fun i j x y hx hy hne hii hjj=>?_,fun b cs hb=>?_,rfl⟩
           ·rw [off i (oldKey i (by rw [hi];rfl))];exact hi
           ·have:=oldKey i hi;simp only [ρ2];rw [if_neg (by rw [this];simp)]
           ·simp only [ρ2];split
            ·exact fun _ _ h=>h
            ·exact fzle
           ·have hi':look nw i=none:=hi;refine off i ?_
            cases hn:nin i (keys nw) with
            |false=>rfl
            |true=>rw [nin_keys,hi'] at hn;cases hn
           ·rw [hs'.mem.mu0];show mu b=false
            cases hmb:mu b with
            |false=>rfl
            |true=>
             exfalso;obtain ⟨k,hk,hks,hkb⟩:=inIds_iff.1 hmb
             rcases List.mem_cons.1 hk with rfl |hk
             ·exact hno k _ (by show look ST k=_;simp only [ST,look];rw [if_pos (by simp)]) hks hkb
             ·exact hno k _ (stRow k hk) hks hkb
           ·have hx':look ST i=some x:=hx;simp only [ST,look] at hx'
            split at hx'
            ·rename_i hi;obtain rfl:id=i:=by simpa using hi
             obtain rfl:=by simpa using hx'
             refine ⟨by rw [hidB];exact hid,by simp [Map.off,hidB];exact hoff,?_,us,csrel_in ag (hzz.imp (fun h=>h) fun h=>(plOK h).2.2) hsg e4s,by rw [hbid];exact e5s⟩;rw [hbid];refine ⟨hMine.1,?_⟩;simp only [ρ2];split
             ·exact hMine.2
             ·exact e3s.2
            ·rw [look_append] at hx'
             cases hq:look (kills (someIds rs)) i with
             |some y=>
              rw [hq] at hx';obtain rfl:=by simpa using hx'
              rw [(kills_look hq).1];trivial
             |none=>
              rw [hq] at hx';dsimp only at hx'
              split at hx'
              ·simp [look] at hx'
              ·rw [(kills_look hx').1];trivial
           ·have hx':look nw i=some x:=hx;obtain ⟨ho,_,_,hni⟩:=newOK_spec hnew i x hx';have hki:nin i (keys nw)=true:=nin_keys.2 (by rw [hx'];rfl);refine ⟨erel_in ag hki (hzz.imp (fun h=>h) fun h=>plainH_spec (plOK h).2.1 i x hx') hni (fun hi=>?_) (hw2.ents i x (look2 i x hx')),fun hi=>?_,ho⟩
            ·obtain ⟨g1,g2,_⟩:=ownNew i x hx' hi;refine ⟨?_,?_⟩
             ·rcases g1 with g1 |⟨k,hk,hks,hkb⟩
              ·exact .inl (by omega)
              ·have hk2:k∈id::someIds rs ∨ k∈keepOwn hp (idsX hp rest):=by
                have hk:look ST k=some .gone:=hk;simp only [ST,look] at hk
                split at hk
                ·cases hk
                ·rw [look_append] at hk
                 cases hq:look (kills (someIds rs)) k with
                 |some y=>exact .inl (List.mem_cons_of_mem _ (kills_look hq).2)
                 |none=>
                  rw [hq] at hk;dsimp only at hk
                  split at hk
                  ·simp [look] at hk
                  ·exact .inr (kills_look hk).2
               have:∃ x,look hp k=some x/\x.isOwn=true:=by
                rcases hk2 with h |h
                ·exact own_k k h hks
                ·have:=(keepOwn_mem.1 h).2;unfold ownId at this
                 split at this
                 ·rename_i y hy;exact ⟨y,hy,this⟩
                 ·cases this
               obtain ⟨y,hy,hyo⟩:=this;rw [hkb];exact (erel_some (hw.ents k y hy) hyo hks).1.1
             ·simp only [ρ2];split
              ·cases hc:ρ.fz (ρr.blk i) with
               |none=>rfl
               |some cs=>have:=fzle _ _ hc;rw [g2] at this;cases this
              ·exact g2
            ·rw [blk2 i hki];exact (ownNew i x hx' (by rw [<- (ag i hki).1];exact hi)).1
           ·have hx':look nw i=some x:=hx;have hy':look nw j=some y:=hy;have hki:nin i (keys nw)=true:=nin_keys.2 (by rw [hx'];rfl);have hkj:nin j (keys nw)=true:=nin_keys.2 (by rw [hy'];rfl);rw [blk2 i hki,blk2 j hkj];exact hw2.apart i j x y (look2 i x hx') (look2 j y hy') (Ent.pl_own (newOK_spec hnew i x hx').1) (Ent.pl_own (newOK_spec hnew j y hy').1) hne (by rw [<- (ag i hki).1];exact hii) (by rw [<- (ag j hkj).1];exact hjj)
           ·by_cases hpl':pl=true
            ·left
             have:ρ2.fz b=some cs:=hb;simp only [ρ2,hpl',if_pos] at this;exact this
            ·have hpl:pl=false:=by simpa using hpl'
             have hb2:ρr.fz b=some cs:=by
              have:ρ2.fz b=some cs:=hb;simp only [ρ2,hpl] at this;exact this
             have hnw:∀ i x,look nw i=some x->(ρ2 i).isSome=true -> ρ2.blk i≠b:=fun i x hx hi hbb=>by
              have hki:nin i (keys nw)=true:=nin_keys.2 (by rw [hx];rfl);obtain ⟨_,g2,_⟩:=ownNew i x hx (by rw [<- (ag i hki).1];exact hi);rw [<- blk2 i hki,hbb,hb2] at g2;cases g2
             rcases hw2.old b cs hb2 with h1 |h1 |h1
             ·rw [hf0,<- hF] at h1
              rcases passF_some h1 with h2 |⟨⟨i,hi,hsi,hbi⟩,_⟩
              ·exact .inl h2
              ·refine .inr ⟨.inr ⟨i,stKeep hpl i hi,hsi,hbi.symm⟩,hw2.froz b cs hb2,hnw⟩
             ·exact .inr ⟨.inl h1,hw2.froz b cs hb2,hnw⟩
             ·rw [hmu] at h1;obtain ⟨k,hk,hks,hkb⟩:=inIds_iff.1 h1
              rcases List.mem_cons.1 hk with rfl |hk
              ·have:=e3s.2;rw [hkb,hb2] at this;cases this
              ·exact .inr ⟨.inr ⟨k,stRow k hk,hks,hkb.symm⟩,hw2.froz b cs hb2,hnw⟩
           ·exact hk.elim
           ·exact hk.elim
          ·exact hk.elim
         cases ex with
         |normal=>simp only [exOf,Option.some.injEq] at hex;subst hex;exact done hk
         |ret=>simp only [exOf,Option.some.injEq] at hex;subst hex;exact done hk
         |exit i=>simp only [exOf,Option.some.injEq] at hex;subst hex;exact hk.elim
         |goto l=>cases hex
         |panic ch=>cases hex
         |outgrown=>cases hex
        ·intro t x hx;obtain ⟨_,h2⟩:=slots0_look _ 0 t x hx;obtain ⟨v,hv,hr⟩:=args_get hargsC (by simpa using h2);have hlt:=lt_of_get hv;have:((v0::vr).toArray++Array.replicate (fn.ntmps-(v0::vr).toArray.size) undef).getD t undef=v:=by
          simp only [Array.getD_eq_getD_getElem?];rw [Array.getElem?_append_left (by simpa using hlt),List.getElem?_toArray,hv];rfl
         rw [this];exact ur_vrel hr
      ·cases h0
     ·cases h0
    ·cases h0
   ·cases h0
  ·cases h0
 ·cases h0
def ObM (tt:TT) (nt:Nat) (A:Ann) (c:Code) (rs:List ResultVar) (T:TypeId) (ms:List AM) (aps:List AP) (ds:List Dat):Option (Eff × List Seg)->Prop
 |some (e,sg)=>(match unM ms ds 1 with
  |some (sM,hM,rest,id1)=>(match unP aps rest id1 with
   |some (svs,h,id)=>AllI e.vc (sx tt nt A (LFb true) c (retM tt rs e T sg) {tm:=slots0 (.one (.sc (.ptr 0 (.lit 0)))::svs) 0,hp:=(0,.own T sM)::(hM++h),nx:=id})
   |none=>True)
  |none=>True)
 |none=>True
theorem fn_obM {P:Program} {tt:TT} (htt:TTOK P tt) (hm:P.follows .mixedOrders=true) {f:FuncId} {fn:Func} {c:Code} (hf:P.funcs[f]? = some fn) (hb:fn.body=some c) (hen:∀ (args:Array Value) (w:World),(callFunc f args).run P w = .ok (.enter f args) w)
 {A:List Dat->Ann} (hC:∀ ds id,CtxOK P ((A ds).C id)) {T:TypeId} {ms:List AM} {aps:List AP} {spec:List Dat->Option (Eff × List Seg)} (hn:Nat.ble (aps.length+1) fn.ntmps=true)
 (H:∀ ds,ObM tt fn.ntmps (A ds) c fn.results.toList T ms aps ds (spec ds)):ConOK P f (conM T ms aps spec):=
 fn_okM htt hm hf hb hen hC hn fun ds e sg sM hM rest id1 svs h id he hvc h1 h2=>by
  have:=H ds;unfold ObM at this;rw [he] at this;dsimp only at this;rw [h1] at this;dsimp only at this;rw [h2] at this;exact allI_iff.1 this hvc
def underM (spec:List Dat->Option (Eff × List Seg)) (μ:List Dat->Nat) (m:Nat):List Dat->Option (Eff × List Seg):=fun ds=>match spec ds with
 |some (e,sg)=>some ({e with vc:=(μ ds<m)::e.vc},sg)
 |none=>none
theorem conM_in {T:TypeId} {ms:List AM} {aps:List AP} {spec:List Dat->Option (Eff × List Seg)} {hp:Heap} {fr:Nat} {args:List SV} {e0:Eff} (h:conM T ms aps spec hp fr args=some e0):∃ ds e sg ps1 ps2,spec ds=some (e,sg)/\e0.vc=ps1++(ps2++e.vc) /\
 ∀ spec' e',spec' ds=some (e',sg)->e'.val=e.val->e'.nw=e.nw->conM T ms aps spec' hp fr args=some {e0 with vc:=ps1++(ps2++e'.vc)}:=by
 unfold conM at h
 split at h
 ·rename_i id rest;unfold conMb at h
  split at h
  ·rename_i T' segs hlk
   split at h
   ·rename_i hTT
    split at h
    ·rename_i ds1 ps1 rs ds2 ps2 hflM hflP
     split at h
     ·rename_i hck
      split at h
      ·rename_i e sg hspec;obtain rfl:=Option.some.inj h;refine ⟨_,e,sg,ps1,ps2,hspec,rfl,fun spec' e' h' hv hn=>?_⟩;have hpl:plainE (e'.sh fr)=plainE (e.sh fr):=by unfold plainE Eff.sh;rw [hv,hn]
       show conMb T ms aps spec' hp fr id rest=_;unfold conMb;rw [hlk];dsimp only;rw [if_pos hTT,hflM,hflP];dsimp only;rw [if_pos hck,h'];dsimp only;rw [hpl,hv,hn]
      ·cases h
     ·cases h
    ·cases h
   ·cases h
  ·cases h
 ·cases h
theorem conM_rec {P:Program} {f:FuncId} {T:TypeId} {ms:List AM} {aps:List AP} {spec:List Dat->Option (Eff × List Seg)} (μ:List Dat->Nat) (hen:∀ (args:Array Value) (w:World),(callFunc f args).run P w = .ok (.enter f args) w) (H:∀ m,ConOK P f (conM T ms aps (underM spec μ m))->ConOK P f (conM T ms aps (underM spec μ (m+1)))):ConOK P f (conM T ms aps spec):=by
 have all:∀ m,ConOK P f (conM T ms aps (underM spec μ m)):=fun m=>by
  induction m with
  |zero=>
   refine ⟨hen,fun hp fr args e he hv=>?_,fun hp fr caps e h=>by cases h⟩;exfalso;obtain ⟨ds,e1,sg,ps1,ps2,hs,hvc,_⟩:=conM_in he;rw [hvc] at hv;obtain ⟨_,hv⟩:=all_append.1 hv;obtain ⟨_,hv⟩:=all_append.1 hv;unfold underM at hs
   split at hs
   ·simp only [Option.some.injEq,Prod.mk.injEq] at hs;obtain ⟨rfl,rfl⟩:=hs;exact Nat.not_lt_zero _ hv.1
   ·cases hs
  |succ m ih=>exact H m ih
 refine ⟨hen,fun hp fr args e he hv=>?_,fun hp fr caps e h=>by cases h⟩;obtain ⟨ds,e1,sg,ps1,ps2,hs,hvc,hx⟩:=conM_in he;have hu:=hx (underM spec μ (μ ds+1)) {e1 with vc:=(μ ds < μ ds+1)::e1.vc} (by unfold underM;rw [hs]) rfl rfl;rw [hvc] at hv;obtain ⟨hv1,hv2⟩:=all_append.1 hv;obtain ⟨hv2,hv3⟩:=all_append.1 hv2;intro w0 w ρ vs hw hn ha;exact ((all (μ ds+1)).calls hp fr args _ hu (all_append.2 ⟨hv1,all_append.2 ⟨hv2,Nat.lt_succ_self _,hv3⟩⟩) w0 w ρ vs hw hn ha).mono fun en w' h=>by
  obtain ⟨ρ',v,h1,h2,h3⟩:=h;exact ⟨ρ',v,h1,h2,⟨h3.ext,h3.only,h3.below,h3.keep,h3.st,h3.nw,h3.apart,h3.fz,h3.kid⟩⟩
end Go.Proofs.YtplejbgafjpomaaGreatDoor.Sx
namespace Go.Proofs.YtplejbgafjpomaaGreatDoor.Sx.Z
open Go.RowKit
def lI:AP:=.sc (.int .i64)
def lX:AP:=.agg [.c (.int .i64),.c (.int .i64),.c .str,.c (.rows 186)]
def lCo:AP:=.agg [.c (.int .i64),.c (.int .i64),.c (.int .i64),.c .str,.c (.rows 186),.c (.int .i64),.c (.int .i64),.c .str,.c (.rows 186)]
def lSt:AP:=.agg [.c (.int .i64),.c .str,.c .str,.c (.int .i64),.c (.int .i64),.c .str,.c (.rows 186),.c (.int .i64),.c (.int .i64),.c (.int .i64),.c .str,.c (.rows 186),.c (.int .i64),.c (.int .i64),.c .str,.c (.rows 186),.c (.rows 193),.c (.rows 193),.c (.rows 195)]
theorem lel_lt {d:D} {i j:Nat} (h:i<d.len):SizeOf.sizeOf (d.el i j)<SizeOf.sizeOf d:=by
 cases d with
 |l rows=>
  have h':i<rows.length:=h;have e:(D.l rows).el i j=(rows[i]).getD j (.i 0):=by
   show (rows.getD i []).getD j (.i 0)=_;rw [List.getD_eq_getElem?_getD (l:=rows),List.getElem?_eq_getElem h',Option.getD_some]
  rw [e,List.getD_eq_getElem?_getD];have h1:=List.sizeOf_lt_of_mem (List.getElem_mem h')
  cases hj:(rows[i])[j]? with
  |none=>
   rw [Option.getD_none];have:SizeOf.sizeOf (D.i 0)=1+SizeOf.sizeOf (0:Int):=rfl;have e2:SizeOf.sizeOf (0:Int)=1:=rfl;have:SizeOf.sizeOf (D.l rows)=1+SizeOf.sizeOf rows:=by simp
   have h2:1<=SizeOf.sizeOf (rows[i]):=by cases rows[i]<;>simp<;>omega
   omega
  |some x=>
   rw [Option.getD_some];have h2:=List.sizeOf_lt_of_mem (List.mem_of_getElem? hj);have:SizeOf.sizeOf (D.l rows)=1+SizeOf.sizeOf rows:=by simp
   omega
 |i n=>exact absurd h (Nat.not_lt_zero i)
 |b n=>exact absurd h (Nat.not_lt_zero i)
 |s n=>exact absurd h (Nat.not_lt_zero i)
def nmB (s:ByteArray):Bool:=!decide ((s.size:Int)>12)&&((lexR s).2.2==0&&((tokD (lexR s).1).len:Int)==1&&((tokD (lexR s).1).el 0 0).toI==1&&(((tokD (lexR s).1).el 0 1).toS.toList==s.toList))
def nuB (n:Int):Bool:=decide (n>=0)&&decide (n<=2147483647)
def biB (k:Int):Bool:=decide (k>=4)&&decide (k<=8)
def aXb (k n:Int) (s:ByteArray) (len:Int) (f:Nat->Bool):Bool:=
 if k=1 then nuB n else if k=2 then nmB s else if k=3 then len==1&&f 0 else if biB k=true then len==2&&f 0&&f 1 else false
def aE (d:D) (i:Nat):Bool:=if _h:i<d.len then aXb (d.el i 0).toI (d.el i 1).toI (d.el i 2).toS (d.el i 3).len (fun j=>aE (d.el i 3) j) else false
 termination_by SizeOf.sizeOf d
 decreasing_by exact lel_lt (by assumption)
def aX (k n:Int) (s:ByteArray) (d:D):Bool:=aXb k n s d.len (aE d)
theorem bi_in {k:Int} (h:biB k=true):4<=k/\k<=8:=by unfold biB at h;simp at h;omega
theorem aX_bin {k n:Int} {s:ByteArray} {d:D} (h:biB k=true):aX k n s d=((d.len:Int)==2&&aE d 0&&aE d 1):=by
 have hb:=bi_in h;unfold aX aXb;rw [if_neg (by omega),if_neg (by omega),if_neg (by omega),if_pos h]
theorem aX_no {k n:Int} {s:ByteArray} {d:D} (h1:k≠1) (h2:k≠2) (h3:k≠3) (h:biB k=false):aX k n s d=false:=by
 unfold aX aXb;rw [if_neg h1,if_neg h2,if_neg h3,if_neg (by rw [h];decide)]
theorem aE_eq {d:D} {i:Nat} (h:i<d.len):aE d i=aX (d.el i 0).toI (d.el i 1).toI (d.el i 2).toS (d.el i 3):=by
 rw [aE,dif_pos h];rfl
noncomputable def nmrS:FSpec:=fun ds _=>match ds with
 | [.s s]=>some {val:=.one (.sc (.bool (.sym (nmB s)))),vc:=[]}
 |_=>none
noncomputable def nmrC:Con:=con [.sc .str] nmrS
theorem nmr_ok:ConOK Tryz.prog 93 nmrC:=by
 refine fn_ob tt_ok mixed Tryz.func93 rfl (fun _ _=>by kernel_rfl) (A:=fun ds=>⟨fun _=>Cons.of [(37,lexC)],fun _=>none,fun _=>none⟩) (fun _ _=>(cons_cons lex_ok cons_nil)) (by kernel_rfl) ?_
 intro ds fr;unfold nmrS;split
 ·rename_i s;refine kmp (q:=(decide ((s.size:Int)>(12:Int))=true->false=nmB s)/\(decide ((s.size:Int)>(12:Int))=false->s.size<=140737488351232/\(((lexR s).snd.snd==(0:Int)&&(↑(tokD (lexR s).fst).len:Int)==(1:Int))=true/\True->(0:Nat)<(tokD (lexR s).fst).len)/\(((lexR s).snd.snd==(0:Int)&&(↑(tokD (lexR s).fst).len:Int)==(1:Int)&&((tokD (lexR s).fst).el ((0:Nat)) ((0:Nat)+(0:Nat))).toI==(1:Int))=true/\True->(0:Nat)<(tokD (lexR s).fst).len)/\((lexR s).snd.snd==(0:Int)&&(↑(tokD (lexR s).fst).len:Int)==(1:Int)&&((tokD (lexR s).fst).el ((0:Nat)) ((0:Nat)+(0:Nat))).toI==(1:Int)&&((tokD (lexR s).fst).el ((0:Nat)) 1).toS.toList==s.toList)=nmB s)) (by kernel_rfl) ?_
  refine ⟨fun h=>?_,fun h=>⟨?_,fun q=>?_,fun q=>?_,?_⟩⟩
  ·unfold nmB;rw [h];rfl
  ·have:=of_decide_eq_false h;omega
  ·have q:=q.1;simp only [Bool.and_eq_true,beq_iff_eq] at q;omega
  ·have q:=q.1;simp only [Bool.and_eq_true,beq_iff_eq] at q;omega
  ·unfold nmB;rw [h];rfl
 ·trivial
noncomputable def nurS:FSpec:=fun ds _=>match ds with
 | [.i n]=>some {val:=.one (.sc (.bool (.sym (nuB n)))),vc:=[]}
 |_=>none
noncomputable def nurC:Con:=con [lI] nurS
theorem nur_ok:ConOK Tryz.prog 132 nurC:=by
 refine fn_ob tt_ok mixed Tryz.func132 rfl (fun _ _=>by kernel_rfl) (A:=fun ds=>⟨fun _=>Cons.of [],fun _=>none,fun _=>none⟩) (fun _ _=>cons_nil) (by kernel_rfl) ?_
 intro ds fr;unfold nurS;split
 ·rename_i n;refine kmp (q:=(decide (n>=(0:Int))&&decide (n<=(2147483647:Int)))=nuB n) (by kernel_rfl) ?_
  rfl
 ·trivial
noncomputable def isbinS:FSpec:=fun ds _=>match ds with
 | [.i k]=>some {val:=.one (.sc (.bool (.sym (biB k)))),vc:=[]}
 |_=>none
noncomputable def isbinC:Con:=con [lI] isbinS
theorem isbin_ok:ConOK Tryz.prog 173 isbinC:=by
 refine fn_ob tt_ok mixed Tryz.func173 rfl (fun _ _=>by kernel_rfl) (A:=fun ds=>⟨fun _=>Cons.of [],fun _=>none,fun _=>none⟩) (fun _ _=>cons_nil) (by kernel_rfl) ?_
 intro ds fr;unfold isbinS;split
 ·rename_i k;refine kmp (q:=(decide (k>=(4:Int))&&decide (k<=(8:Int)))=biB k) (by kernel_rfl) ?_
  rfl
 ·trivial
noncomputable def axrS:FSpec:=fun ds _=>match ds with
 | [.i k,.i n,.s s,.d d]=>some {val:=.one (.sc (.bool (.sym (aX k n s d)))),vc:=[]}
 |_=>none
noncomputable def axrC:Con:=con [lX] axrS
noncomputable def axrM:List Dat->Nat:=fun ds=>match ds with
 | [.i _k,.i _n,.s _s,.d d]=>SizeOf.sizeOf d
 |_=>0
noncomputable def axrSu (m:Nat):FSpec:=fun ds _=>match ds with
 | [.i k,.i n,.s s,.d d]=>some {val:=.one (.sc (.bool (.sym (aX k n s d)))),vc:=[SizeOf.sizeOf d<m]}
 |_=>none
theorem axr_under (m:Nat):axrS.under axrM m=axrSu m:=by
 funext ds fr
 unfold FSpec.under axrS axrM axrSu;split
 ·rename_i e h
  split at h
  ·obtain rfl:=Option.some.inj h;rfl
  ·cases h
 ·rename_i h
  split at h
  ·cases h
  ·rfl
theorem axr_step (m:Nat) (ih:ConOK Tryz.prog 158 (con [lX] (axrSu m))):ConOK Tryz.prog 158 (con [lX] (axrSu (m+1))):=by
 refine fn_ob tt_ok mixed Tryz.func158 rfl (fun _ _=>by kernel_rfl) (A:=fun ds=>⟨fun _=>Cons.of [(132,nurC),(93,nmrC),(173,isbinC),(158,con [lX] (axrSu m))],fun _=>none,fun _=>none⟩) (fun _ _=>(cons_cons nur_ok (cons_cons nmr_ok (cons_cons isbin_ok (cons_cons ih cons_nil))))) (by kernel_rfl) ?_
 intro ds fr;unfold axrSu;split
 ·rename_i k n s d;refine kmp (q:=SizeOf.sizeOf d<m+(1:Nat)->((k==(1:Int))=true->nuB n=aX k n s d)/\((k==(1:Int))=false->((k==(2:Int))=true->nmB s=aX k n s d)/\((k==(2:Int))=false->((k==(3:Int))=true->(((d.len:Int)==(1:Int))=true/\True->(0:Nat)<d.len)/\(((d.len:Int)==(1:Int))=true/\True->SizeOf.sizeOf (d.el ((0:Nat)) 3)<m)/\((d.len:Int)==(1:Int)&&aX (d.el ((0:Nat)) (0:Nat)).toI (d.el ((0:Nat)) 1).toI (d.el ((0:Nat)) 2).toS (d.el ((0:Nat)) 3))=aX k n s d)/\((k==(3:Int))=false->(biB k=true->(((d.len:Int)==(2:Int))=true/\True->(0:Nat)<d.len)/\(((d.len:Int)==(2:Int))=true/\True->SizeOf.sizeOf (d.el ((0:Nat)) 3)<m)/\(((d.len:Int)==(2:Int)&&aX (d.el ((0:Nat)) (0:Nat)).toI (d.el ((0:Nat)) 1).toI (d.el ((0:Nat)) 2).toS (d.el ((0:Nat)) 3))=true/\True->(1:Nat)<d.len)/\(((d.len:Int)==(2:Int)&&aX (d.el ((0:Nat)) (0:Nat)).toI (d.el ((0:Nat)) 1).toI (d.el ((0:Nat)) 2).toS (d.el ((0:Nat)) 3))=true/\True->SizeOf.sizeOf (d.el ((1:Nat)) 3)<m)/\((d.len:Int)==(2:Int)&&aX (d.el ((0:Nat)) (0:Nat)).toI (d.el ((0:Nat)) 1).toI (d.el ((0:Nat)) 2).toS (d.el ((0:Nat)) 3)&&aX (d.el ((1:Nat)) (0:Nat)).toI (d.el ((1:Nat)) 1).toI (d.el ((1:Nat)) 2).toS (d.el ((1:Nat)) 3))=aX k n s d)/\(biB k=false->false=aX k n s d))))) (by kernel_rfl) ?_
  intro hm
  (try simp only [Nat.reduceAdd,Nat.zero_add])
  refine ⟨fun h=>?_,fun h1=>⟨fun h=>?_,fun h2=>⟨fun h=>?_,fun h3=>⟨fun h=>?_,fun h=>?_⟩⟩⟩⟩
  ·obtain rfl:=eq_of_beq h;rfl
  ·obtain rfl:=eq_of_beq h;rfl
  ·obtain rfl:=eq_of_beq h;have e:aX 3 n s d=((d.len:Int)==1&&aE d 0):=rfl;rw [e]
   by_cases hl:d.len=1
   ·have z:=lel_lt (d:=d) (i:=0) (j:=3) (by omega);rw [aE_eq (by omega:0<d.len)];exact ⟨fun _=>by omega,fun _=>by omega,rfl⟩
   ·have q:((d.len:Int)==1)=false:=by simpa using (by omega:¬ (d.len:Int)=1)
    rw [q];exact ⟨fun h=>(by cases h.1),fun h=>(by cases h.1),rfl⟩
  ·rw [aX_bin h]
   by_cases hl:d.len=2
   ·have z:=lel_lt (d:=d) (i:=0) (j:=3) (by omega);have z1:=lel_lt (d:=d) (i:=1) (j:=3) (by omega);rw [aE_eq (by omega:0<d.len),aE_eq (by omega:1<d.len)];exact ⟨fun _=>by omega,fun _=>by omega,fun _=>by omega,fun _=>by omega,rfl⟩
   ·have q:((d.len:Int)==2)=false:=by simpa using (by omega:¬ (d.len:Int)=2)
    rw [q];exact ⟨fun h=>(by cases h.1),fun h=>(by cases h.1),fun h=>(by cases h.1),fun h=>(by cases h.1),rfl⟩
  ·exact (aX_no (ne_of_beq_false h1) (ne_of_beq_false h2) (ne_of_beq_false h3) h).symm
 ·trivial
theorem axr_ok:ConOK Tryz.prog 158 axrC:=
 con_rec axrM (fun _ _=>by kernel_rfl) fun m ih=>by
  rw [axr_under] at ih ⊢;exact axr_step m ih
def lBo:AP:=.sc (.rows 193)
def lAm:AP:=.sc (.rows 195)
def allB (n:Nat) (f:Nat->Bool):Bool:=(List.range n).all f
theorem allB_iff {n:Nat} {f:Nat->Bool}:allB n f=true ↔ ∀ i,i<n->f i=true:=by
 unfold allB;rw [List.all_eq_true];exact ⟨fun h i hi=>h i (List.mem_range.2 hi),fun h i hi=>h i (List.mem_range.1 hi)⟩
theorem allB_yes {n:Nat} {f:Nat->Bool} (h:∀ i,i<n->f i=true):allB n f=true:=allB_iff.2 h
theorem allB_no {n i:Nat} {f:Nat->Bool} (hi:i<n) (h:f i=false):allB n f=false:=by
 cases hc:allB n f with
 |false=>rfl
 |true=>rw [allB_iff.1 hc i hi] at h;cases h
theorem allF_eq {n:Nat} (f:Nat->Bool):((List.finRange n).all fun i=>f i.1)=allB n f:=by
 have h1:((List.finRange n).all fun i=>f i.1)=true↔allB n f=true:=by
  rw [allB_iff,List.all_eq_true];exact ⟨fun h i hi=>h ⟨i,hi⟩ (List.mem_finRange _),fun h i _=>h i.1 i.2⟩
 cases hc:allB n f with
 |true=>exact h1.2 hc
 |false=>
  cases hd:((List.finRange n).all fun i=>f i.1) with
  |false=>rfl
  |true=>rw [h1.1 hd] at hc;cases hc
def aC (op lk ln:Int) (ls:ByteArray) (ld:D) (rk rn:Int) (rs:ByteArray) (rd:D):Bool:=decide (op>=1)&&decide (op<=6)&&aX lk ln ls ld&&aX rk rn rs rd
def aStF (k:Int) (nm tg:ByteArray) (e c b el:Bool) (al:Int) (a:Bool):Bool:=
 if k=1 then nmB nm&&e else if k=2 then c&&b&&el else if k=3 then c&&b else if k=4 then nmB nm&&nmB tg&&e else if k=5 then nmB nm&&decide (al>0)&&a else if k=6 then c else if k=7 then nmB nm else false
def bA (d:D):Bool:=(List.finRange d.len).all fun (i:Fin d.len)=>aStF (d.el i 0).toI (d.el i 1).toS (d.el i 2).toS (aX (d.el i 3).toI (d.el i 4).toI (d.el i 5).toS (d.el i 6)) (aC (d.el i 7).toI (d.el i 8).toI (d.el i 9).toI (d.el i 10).toS (d.el i 11) (d.el i 12).toI (d.el i 13).toI (d.el i 14).toS (d.el i 15)) (bA (d.el i 16)) (bA (d.el i 17)) (d.el i 18).len
    ((List.finRange (d.el i 18).len).all fun (j:Fin (d.el i 18).len)=>nmB ((d.el i 18).el j 0).toS&&nmB ((d.el i 18).el j 1).toS&&bA ((d.el i 18).el j 2))
 termination_by SizeOf.sizeOf d
 decreasing_by
  ·exact lel_lt i.isLt
  ·exact lel_lt i.isLt
  ·exact Nat.lt_trans (lel_lt j.isLt) (lel_lt i.isLt)
def arE (am:D) (j:Nat):Bool:=nmB (am.el j 0).toS&&nmB (am.el j 1).toS&&bA (am.el j 2)
def amsA (am:D):Bool:=allB am.len (arE am)
def stA (k:Int) (nm tg:ByteArray) (ek en:Int) (es:ByteArray) (ed:D) (op lk ln:Int) (ls:ByteArray) (ld:D) (rk rn:Int) (rs:ByteArray) (rd bd eb am:D):Bool:=
 aStF k nm tg (aX ek en es ed) (aC op lk ln ls ld rk rn rs rd) (bA bd) (bA eb) am.len (amsA am)
def stE (d:D) (i:Nat):Bool:=stA (d.el i 0).toI (d.el i 1).toS (d.el i 2).toS (d.el i 3).toI (d.el i 4).toI (d.el i 5).toS (d.el i 6) (d.el i 7).toI (d.el i 8).toI (d.el i 9).toI (d.el i 10).toS (d.el i 11) (d.el i 12).toI (d.el i 13).toI (d.el i 14).toS (d.el i 15) (d.el i 16) (d.el i 17) (d.el i 18)
theorem bA_eq (d:D):bA d=allB d.len (stE d):=by
 rw [bA,<- allF_eq]
 congr 1
 funext i
 unfold stE stA amsA;rw [<- allF_eq];rfl
def sOK (d:D):Prop:=d.len<=10000000000000/\∀ i:Fin d.len,sOK (d.el i 16)/\sOK (d.el i 17)/\(d.el i 18).len<=10000000000000/\∀ j:Fin (d.el i 18).len,sOK ((d.el i 18).el j 2)
 termination_by SizeOf.sizeOf d
 decreasing_by
  ·exact lel_lt i.isLt
  ·exact lel_lt i.isLt
  ·exact Nat.lt_trans (lel_lt j.isLt) (lel_lt i.isLt)
def amOK (am:D):Prop:=am.len<=10000000000000/\∀ j,j<am.len->sOK (am.el j 2)
theorem sOK_iff (d:D):sOK d↔d.len<=10000000000000/\∀ i,i<d.len->sOK (d.el i 16)/\sOK (d.el i 17)/\amOK (d.el i 18):=by
 rw [sOK];constructor
 ·rintro ⟨h,k⟩;refine ⟨h,fun i hi=>?_⟩;obtain ⟨a,b,c,e⟩:=k ⟨i,hi⟩;exact ⟨a,b,c,fun j hj=>e ⟨j,hj⟩⟩
 ·rintro ⟨h,k⟩;refine ⟨h,fun i=>?_⟩;obtain ⟨a,b,c,e⟩:=k i.1 i.2;exact ⟨a,b,c,fun j=>e j.1 j.2⟩
noncomputable def acrS:FSpec:=fun ds _=>match ds with
 | [.i op,.i lk,.i ln,.s ls,.d ld,.i rk,.i rn,.s rs,.d rd]=>some {val:=.one (.sc (.bool (.sym (aC op lk ln ls ld rk rn rs rd)))),vc:=[]}
 |_=>none
noncomputable def acrC:Con:=con [lCo] acrS
theorem acr_ok:ConOK Tryz.prog 159 acrC:=by
 refine fn_ob tt_ok mixed Tryz.func159 rfl (fun _ _=>by kernel_rfl) (A:=fun ds=>⟨fun _=>Cons.of [(158,axrC)],fun _=>none,fun _=>none⟩) (fun _ _=>(cons_cons axr_ok cons_nil)) (by kernel_rfl) ?_
 intro ds fr;unfold acrS;split
 ·rename_i op lk ln ls ld rk rn rs rd;refine kmp (q:=(decide (op>=(1:Int))&&decide (op<=(6:Int))&&aX lk ln ls ld&&aX rk rn rs rd)=aC op lk ln ls ld rk rn rs rd) (by kernel_rfl) ?_
  exact rfl
 ·trivial
noncomputable def bdrS:FSpec:=fun ds _=>match ds with
 | [.d d]=>some {val:=.one (.sc (.bool (.sym (bA d)))),vc:=[sOK d]}
 |_=>none
noncomputable def bdrC:Con:=con [lBo] bdrS
noncomputable def bdrM:List Dat->Nat:=fun ds=>match ds with
 | [.d d]=>SizeOf.sizeOf d
 |_=>0
noncomputable def bdrSu (m:Nat):FSpec:=fun ds _=>match ds with
 | [.d d]=>some {val:=.one (.sc (.bool (.sym (bA d)))),vc:=[SizeOf.sizeOf d<m,sOK d]}
 |_=>none
theorem bdr_under (m:Nat):bdrS.under bdrM m=bdrSu m:=by
 funext ds fr
 unfold FSpec.under bdrS bdrM bdrSu;split
 ·rename_i e h
  split at h
  ·obtain rfl:=Option.some.inj h;rfl
  ·cases h
 ·rename_i h
  split at h
  ·cases h
  ·rfl
noncomputable def amrS (m:Nat):FSpec:=fun ds _=>match ds with
 | [.d d]=>some {val:=.one (.sc (.bool (.sym (amsA d)))),vc:=[SizeOf.sizeOf d<m,amOK d]}
 |_=>none
noncomputable def amrC (m:Nat):Con:=con [lAm] (amrS m)
theorem amr_ok {m:Nat} (ih:ConOK Tryz.prog 95 (con [lBo] (bdrSu m))):ConOK Tryz.prog 160 (amrC m):=by
 refine fn_ob tt_ok mixed Tryz.func160 rfl (fun _ _=>by kernel_rfl) (A:=fun ds=>⟨fun _=>Cons.of [(93,nmrC),(95,con [lBo] (bdrSu m))],fun k=>match k,ds with | 2,[.d d]=>some {ι:=Nat,pre:=fun _ i=>i<=d.len/\∀ j,j<i->arE d j=true,μ:=fun i=>d.len-i,st:=fun s i=>famR s [(7,.one (.sc (.int .i64 (.sym ((i:Int))))))] [5,6] [] []} |_,_=>none,fun _=>none⟩) (fun _ _=>(cons_cons nmr_ok (cons_cons ih cons_nil))) (by kernel_rfl) ?_
 intro ds fr;unfold amrS;split
 ·rename_i d;refine kmp (q:=SizeOf.sizeOf d<m->amOK d->(∃ (i:Nat),(i<=d.len/\∀ (j:Nat),j<i->arE d j=true)/\(0:Int)=(i:Int)/\d.rows=d.rows/\(d.len:Int)=(d.len:Int))/\∀ (i:Nat),(i<=d.len/\∀ (j:Nat),j<i->arE d j=true)->(decide ((i:Int)<(d.len:Int))=true->((0:Int)<=(i:Int)/\(i:Int)<(d.len:Int))/\((!nmB (d.el (i:Int).toNat 0).toS || !nmB (d.el (i:Int).toNat 1).toS)=false/\True->SizeOf.sizeOf (d.el (i:Int).toNat 2)<m)/\((!nmB (d.el (i:Int).toNat 0).toS || !nmB (d.el (i:Int).toNat 1).toS)=false/\True->sOK (d.el (i:Int).toNat 2))/\((!nmB (d.el (i:Int).toNat 0).toS || !nmB (d.el (i:Int).toNat 1).toS || !bA (d.el (i:Int).toNat 2))=true->false=amsA d)/\((!nmB (d.el (i:Int).toNat 0).toS || !nmB (d.el (i:Int).toNat 1).toS || !bA (d.el (i:Int).toNat 2))=false->∃ (j:Nat),(j<=d.len/\∀ (j_1:Nat),j_1<j->arE d j_1=true)/\d.len-j<d.len-i/\IntKind.i64.wrap ((i:Int)+(1:Int))=(j:Int)/\d.rows=d.rows/\(d.len:Int)=(d.len:Int)))/\(decide ((i:Int)<(d.len:Int))=false->true=amsA d)) (by kernel_rfl) ?_
  intro hm hs;have e0:∀ (i:Nat),((i:Int)).toNat=i:=fun i=>Int.toNat_natCast i
  simp only [Nat.zero_add,Nat.reduceAdd,e0];have hb:=hs.1;unfold amsA;refine ⟨⟨0,⟨Nat.zero_le _,fun j hj=>absurd hj (Nat.not_lt_zero j)⟩,rfl,trivial,trivial⟩,fun i hp=>⟨fun hl=>?_,fun hl=>?_⟩⟩
  ·have hl:=of_decide_eq_true hl;have hi:i<d.len:=by omega
   have hw:IntKind.i64.wrap ((i:Int)+1)=((i+1:Nat):Int):=by rw [IntWalk.i64_in _ (by omega)];omega
   have z1:=lel_lt (j:=2) hi;have s1:=hs.2 i hi;have er:arE d i = !(!nmB (d.el i 0).toS || !nmB (d.el i 1).toS || !bA (d.el i 2)):=by unfold arE;simp
   refine ⟨⟨by omega,by omega⟩,fun _=>by omega,fun _=>s1,fun hq=>?_,fun hq=>?_⟩
   ·have hq:arE d i=false:=by rw [er,hq];rfl
    exact (allB_no hi hq).symm
   ·have hq:arE d i=true:=by rw [er,hq];rfl
    refine ⟨i+1,⟨by omega,fun j hj=>?_⟩,by omega,hw,trivial,trivial⟩
    rcases Nat.lt_or_ge j i with h |h
    ·exact hp.2 j h
    ·obtain rfl:j=i:=by omega
     exact hq
  ·have hl:=of_decide_eq_false hl;exact (allB_yes fun j hj=>hp.2 j (by omega)).symm
 ·trivial
noncomputable def strS (m:Nat):FSpec:=fun ds _=>match ds with
 | [.i k,.s nm,.s tg,.i ek,.i en,.s es,.d ed,.i op,.i lk,.i ln,.s ls,.d ld,.i rk,.i rn,.s rs,.d rd,.d bd,.d eb,.d am]=>some {val:=.one (.sc (.bool (.sym (stA k nm tg ek en es ed op lk ln ls ld rk rn rs rd bd eb am)))),vc:=[SizeOf.sizeOf bd<m,SizeOf.sizeOf eb<m,SizeOf.sizeOf am<m,sOK bd,sOK eb,amOK am]}
 |_=>none
noncomputable def strC (m:Nat):Con:=con [lSt] (strS m)
theorem str_ok {m:Nat} (ih:ConOK Tryz.prog 95 (con [lBo] (bdrSu m))):ConOK Tryz.prog 133 (strC m):=by
 refine fn_ob tt_ok mixed Tryz.func133 rfl (fun _ _=>by kernel_rfl) (A:=fun ds=>⟨fun _=>Cons.of [(93,nmrC),(158,axrC),(159,acrC),(160,(amrC m)),(95,con [lBo] (bdrSu m))],fun _=>none,fun _=>none⟩) (fun _ _=>(cons_cons nmr_ok (cons_cons axr_ok (cons_cons acr_ok (cons_cons (amr_ok ih) (cons_cons ih cons_nil)))))) (by kernel_rfl) ?_
 intro ds fr;unfold strS;split
 ·rename_i k nm tg ek en es ed op lk ln ls ld rk rn rs rd bd eb am;refine kmp (q:=SizeOf.sizeOf bd<m->SizeOf.sizeOf eb<m->SizeOf.sizeOf am<m->sOK bd->sOK eb->amOK am->((k==(1:Int))=true->(nmB nm&&aX ek en es ed)=stA k nm tg ek en es ed op lk ln ls ld rk rn rs rd bd eb am)/\((k==(1:Int))=false->((k==(2:Int))=true->(aC op lk ln ls ld rk rn rs rd=true/\True->SizeOf.sizeOf bd<m)/\(aC op lk ln ls ld rk rn rs rd=true/\True->sOK bd)/\((aC op lk ln ls ld rk rn rs rd&&bA bd)=true/\True->SizeOf.sizeOf eb<m)/\((aC op lk ln ls ld rk rn rs rd&&bA bd)=true/\True->sOK eb)/\(aC op lk ln ls ld rk rn rs rd&&bA bd&&bA eb)=stA k nm tg ek en es ed op lk ln ls ld rk rn rs rd bd eb am)/\((k==(2:Int))=false->((k==(3:Int))=true->(aC op lk ln ls ld rk rn rs rd=true/\True->SizeOf.sizeOf bd<m)/\(aC op lk ln ls ld rk rn rs rd=true/\True->sOK bd)/\(aC op lk ln ls ld rk rn rs rd&&bA bd)=stA k nm tg ek en es ed op lk ln ls ld rk rn rs rd bd eb am)/\((k==(3:Int))=false->((k==(4:Int))=true->(nmB nm&&nmB tg&&aX ek en es ed)=stA k nm tg ek en es ed op lk ln ls ld rk rn rs rd bd eb am)/\((k==(4:Int))=false->((k==(5:Int))=true->((nmB nm&&decide ((am.len:Int)>(0:Int)))=true/\True->SizeOf.sizeOf am<m)/\((nmB nm&&decide ((am.len:Int)>(0:Int)))=true/\True->amOK am)/\(nmB nm&&decide ((am.len:Int)>(0:Int))&&amsA am)=stA k nm tg ek en es ed op lk ln ls ld rk rn rs rd bd eb am)/\((k==(5:Int))=false->((k==(6:Int))=true->aC op lk ln ls ld rk rn rs rd=stA k nm tg ek en es ed op lk ln ls ld rk rn rs rd bd eb am)/\((k==(6:Int))=false->((k==(7:Int))=true->nmB nm=stA k nm tg ek en es ed op lk ln ls ld rk rn rs rd bd eb am)/\((k==(7:Int))=false->false=stA k nm tg ek en es ed op lk ln ls ld rk rn rs rd bd eb am)))))))) (by kernel_rfl) ?_
  intro h1 h2 h3 h4 h5 h6;refine ⟨fun h=>?_,fun n1=>⟨fun h=>⟨fun _=>h1,fun _=>h4,fun _=>h2,fun _=>h5,?_⟩,fun n2=>⟨fun h=>⟨fun _=>h1,fun _=>h4,?_⟩,fun n3=>⟨fun h=>?_,fun n4=>⟨fun h=>⟨fun _=>h3,fun _=>h6,?_⟩,fun n5=>⟨fun h=>?_,fun n6=>⟨fun h=>?_,fun n7=>?_⟩⟩⟩⟩⟩⟩⟩
  iterate 7 (obtain rfl:=eq_of_beq h;rfl)
  unfold stA aStF;rw [if_neg (ne_of_beq_false n1),if_neg (ne_of_beq_false n2),if_neg (ne_of_beq_false n3),if_neg (ne_of_beq_false n4),if_neg (ne_of_beq_false n5),if_neg (ne_of_beq_false n6),if_neg (ne_of_beq_false n7)]
 ·trivial
theorem bdr_step (m:Nat) (ih:ConOK Tryz.prog 95 (con [lBo] (bdrSu m))):ConOK Tryz.prog 95 (con [lBo] (bdrSu (m+1))):=by
 refine fn_ob tt_ok mixed Tryz.func95 rfl (fun _ _=>by kernel_rfl) (A:=fun ds=>⟨fun _=>Cons.of [(133,(strC m))],fun k=>match k,ds with | 2,[.d d]=>some {ι:=Nat,pre:=fun _ i=>i<=d.len/\∀ j,j<i->stE d j=true,μ:=fun i=>d.len-i,st:=fun s i=>famR s [(7,.one (.sc (.int .i64 (.sym ((i:Int))))))] [5,6] [] []} |_,_=>none,fun _=>none⟩) (fun _ _=>(cons_cons (str_ok ih) cons_nil)) (by kernel_rfl) ?_
 intro ds fr;unfold bdrSu;split
 ·rename_i d;refine kmp (q:=withv (fun (i:Nat)=>d.el (i:Int).toNat 18) fun E5=>withv (fun (i:Nat)=>d.el (i:Int).toNat 17) fun E6=>withv (fun (i:Nat)=>d.el (i:Int).toNat 16) fun E7=>withv (fun (i:Nat)=>d.el (i:Int).toNat 15) fun E8=>withv (fun (i:Nat)=>d.el (i:Int).toNat 14) fun E9=>withv (fun (i:Nat)=>d.el (i:Int).toNat 13) fun E10=>withv (fun (i:Nat)=>d.el (i:Int).toNat 12) fun E11=>withv (fun (i:Nat)=>d.el (i:Int).toNat 11) fun E12=>withv (fun (i:Nat)=>d.el (i:Int).toNat 10) fun E13=>withv (fun (i:Nat)=>d.el (i:Int).toNat 9) fun E14=>withv (fun (i:Nat)=>d.el (i:Int).toNat 8) fun E15=>withv (fun (i:Nat)=>d.el (i:Int).toNat 7) fun E16=>SizeOf.sizeOf d<m+(1:Nat)->sOK d->(∃ (i:Nat),(i<=d.len/\∀ (j:Nat),j<i->stE d j=true)/\(0:Int)=(i:Int)/\d.rows=d.rows/\(d.len:Int)=(d.len:Int))/\∀ (i:Nat),(i<=d.len/\∀ (j:Nat),j<i->stE d j=true)->(decide ((i:Int)<(d.len:Int))=true->((0:Int)<=(i:Int)/\(i:Int)<(d.len:Int))/\SizeOf.sizeOf (E7 i)<m/\SizeOf.sizeOf (E6 i)<m/\SizeOf.sizeOf (E5 i)<m/\sOK (E7 i)/\sOK (E6 i)/\amOK (E5 i)/\((!stA (d.el (i:Int).toNat 0).toI (d.el (i:Int).toNat 1).toS (d.el (i:Int).toNat 2).toS (d.el (i:Int).toNat 3).toI (d.el (i:Int).toNat 4).toI (d.el (i:Int).toNat 5).toS (d.el (i:Int).toNat 6) (E16 i).toI (E15 i).toI (E14 i).toI (E13 i).toS (E12 i) (E11 i).toI (E10 i).toI (E9 i).toS (E8 i) (E7 i) (E6 i) (E5 i))=true->false=bA d)/\((!stA (d.el (i:Int).toNat 0).toI (d.el (i:Int).toNat 1).toS (d.el (i:Int).toNat 2).toS (d.el (i:Int).toNat 3).toI (d.el (i:Int).toNat 4).toI (d.el (i:Int).toNat 5).toS (d.el (i:Int).toNat 6) (E16 i).toI (E15 i).toI (E14 i).toI (E13 i).toS (E12 i) (E11 i).toI (E10 i).toI (E9 i).toS (E8 i) (E7 i) (E6 i) (E5 i))=false->∃ (j:Nat),(j<=d.len/\∀ (j_1:Nat),j_1<j->stE d j_1=true)/\d.len-j<d.len-i/\IntKind.i64.wrap ((i:Int)+(1:Int))=(j:Int)/\d.rows=d.rows/\(d.len:Int)=(d.len:Int)))/\(decide ((i:Int)<(d.len:Int))=false->true=bA d)) (by kernel_rfl) ?_
  dsimp +instances only [withv]
  intro hm hs;have e0:∀ (i:Nat),((i:Int)).toNat=i:=fun i=>Int.toNat_natCast i
  simp only [Nat.zero_add,Nat.reduceAdd,e0];have hb:=((sOK_iff d).1 hs).1;rw [bA_eq];refine ⟨⟨0,⟨Nat.zero_le _,fun j hj=>absurd hj (Nat.not_lt_zero j)⟩,rfl,trivial,trivial⟩,fun i hp=>⟨fun hl=>?_,fun hl=>?_⟩⟩
  ·have hl:=of_decide_eq_true hl;have hi:i<d.len:=by omega
   have hw:IntKind.i64.wrap ((i:Int)+1)=((i+1:Nat):Int):=by rw [IntWalk.i64_in _ (by omega)];omega
   have z1:=lel_lt (j:=16) hi;have z2:=lel_lt (j:=17) hi;have z3:=lel_lt (j:=18) hi;obtain ⟨s1,s2,s3⟩:=((sOK_iff d).1 hs).2 i hi;refine ⟨⟨by omega,by omega⟩,by omega,by omega,by omega,s1,s2,s3,fun hq=>?_,fun hq=>?_⟩
   ·have hq:stE d i=false:=by rw [Bool.not_eq_true'] at hq;exact hq
    exact (allB_no hi hq).symm
   ·have hq:stE d i=true:=by rw [Bool.not_eq_false'] at hq;exact hq
    refine ⟨i+1,⟨by omega,fun j hj=>?_⟩,by omega,hw,trivial,trivial⟩
    rcases Nat.lt_or_ge j i with h |h
    ·exact hp.2 j h
    ·obtain rfl:j=i:=by omega
     exact hq
  ·have hl:=of_decide_eq_false hl;exact (allB_yes fun j hj=>hp.2 j (by omega)).symm
 ·trivial
theorem bdr_ok:ConOK Tryz.prog 95 bdrC:=
 con_rec bdrM (fun _ _=>by kernel_rfl) fun m ih=>by
  rw [bdr_under] at ih ⊢;exact bdr_step m ih
def lNs:AP:=.sc (.rows 9)
def lCh:AP:=.agg [.c .str,.c (.int .i64),.c (.int .i64),.c .str,.c .str,.c (.rows 9)]
def lRu:AP:=.agg [.c .str,.c (.rows 122)]
def lSy:AP:=.agg [.c (.rows 118),.c (.rows 121),.c (.rows 126)]
def nsE (d:D) (i:Nat):Bool:=nmB (d.el i 0).toS
def nsA (d:D):Bool:=allB d.len (nsE d)
def chB (nm:ByteArray) (k sz:Int) (f t:ByteArray) (tg:D):Bool:=nmB nm&&decide (k>=0)&&decide (k<=2)&&nuB sz&&nmB f&&nmB t&&decide ((tg.len:Int)>0)&&nsA tg
def mvE (d:D) (i:Nat):Bool:=nuB (d.el i 0).toI&&nmB (d.el i 1).toS&&nuB (d.el i 2).toI
def ruB (nm:ByteArray) (mv:D):Bool:=allB mv.len (mvE mv)&&nmB nm
def chE (d:D) (i:Nat):Bool:=chB (d.el i 0).toS (d.el i 1).toI (d.el i 2).toI (d.el i 3).toS (d.el i 4).toS (d.el i 5)
def ruE (d:D) (i:Nat):Bool:=ruB (d.el i 0).toS (d.el i 1)
def prE (d:D) (i:Nat):Bool:=nmB (d.el i 0).toS&&nsA (d.el i 1)&&bA (d.el i 2)
def syB (ch ru pr:D):Bool:=allB ch.len (chE ch)&&(allB ru.len (ruE ru)&&allB pr.len (prE pr))
structure SyOK (ch ru pr:D):Prop where
 c:ch.len<=10000000000000
 ct:∀ i,i<ch.len->(ch.el i 5).len<=10000000000000
 r:ru.len<=10000000000000
 rm:∀ i,i<ru.len->(ru.el i 1).len<=10000000000000
 p:pr.len<=10000000000000
 pv:∀ i,i<pr.len->(pr.el i 1).len<=10000000000000
 pb:∀ i,i<pr.len->sOK (pr.el i 2)
noncomputable def nsrS:FSpec:=fun ds _=>match ds with
 | [.d d]=>some {val:=.one (.sc (.bool (.sym (nsA d)))),vc:=[d.len<=10000000000000]}
 |_=>none
noncomputable def nsrC:Con:=con [lNs] nsrS
theorem nsr_ok:ConOK Tryz.prog 94 nsrC:=by
 refine fn_ob tt_ok mixed Tryz.func94 rfl (fun _ _=>by kernel_rfl) (A:=fun ds=>⟨fun _=>Cons.of [(93,nmrC)],fun k=>match k,ds with | 2,[.d d]=>some {ι:=Nat,pre:=fun _ i=>i<=d.len/\∀ j,j<i->nsE d j=true,μ:=fun i=>d.len-i,st:=fun s i=>famR s [(7,.one (.sc (.int .i64 (.sym ((i:Int))))))] [5,6] [] []} |_,_=>none,fun _=>none⟩) (fun _ _=>(cons_cons nmr_ok cons_nil)) (by kernel_rfl) ?_
 intro ds fr;unfold nsrS;split
 ·rename_i d;refine kmp (q:=d.len<=10000000000000->(∃ (i:Nat),(i<=d.len/\∀ (j:Nat),j<i->nsE d j=true)/\(0:Int)=(i:Int)/\d.rows=d.rows/\(d.len:Int)=(d.len:Int))/\∀ (i:Nat),(i<=d.len/\∀ (j:Nat),j<i->nsE d j=true)->(decide ((i:Int)<(d.len:Int))=true->((0:Int)<=(i:Int)/\(i:Int)<(d.len:Int))/\((!nmB (d.el (i:Int).toNat 0).toS)=true->false=nsA d)/\((!nmB (d.el (i:Int).toNat 0).toS)=false->∃ (j:Nat),(j<=d.len/\∀ (j_1:Nat),j_1<j->nsE d j_1=true)/\d.len-j<d.len-i/\IntKind.i64.wrap ((i:Int)+(1:Int))=(j:Int)/\d.rows=d.rows/\(d.len:Int)=(d.len:Int)))/\(decide ((i:Int)<(d.len:Int))=false->true=nsA d)) (by kernel_rfl) ?_
  intro hd;have e0:∀ (i:Nat),((i:Int)).toNat=i:=fun i=>Int.toNat_natCast i
  simp only [e0];unfold nsA;refine ⟨⟨0,⟨Nat.zero_le _,fun j hj=>absurd hj (Nat.not_lt_zero j)⟩,by (repeat' apply And.intro)<;>first |trivial |rfl |(intro _ _;rfl) |(intro _ _;trivial)⟩,fun i hp=>⟨fun hl=>?_,fun hl=>?_⟩⟩
  ·have hl:=of_decide_eq_true hl;have hb:=hd;have hi:i<d.len:=by omega
   have hw:IntKind.i64.wrap ((i:Int)+1)=((i+1:Nat):Int):=by rw [IntWalk.i64_in _ (by omega)];omega
   skip
   refine ⟨⟨by omega,by omega⟩,fun hq=>?_,fun hq=>?_⟩
   ·have hq:nsE d i=false:=by rw [Bool.not_eq_true'] at hq;exact hq
    exact (allB_no hi hq).symm
   ·have hq:nsE d i=true:=by rw [Bool.not_eq_false'] at hq;exact hq
    refine ⟨i+1,⟨by omega,fun j hj=>?_⟩,by omega,hw,by (repeat' apply And.intro)<;>first |trivial |rfl |(intro _ _;rfl) |(intro _ _;trivial)⟩
    rcases Nat.lt_or_ge j i with h |h
    ·exact hp.2 j h
    ·obtain rfl:j=i:=by omega
     exact hq
  ·have hl:=of_decide_eq_false hl;have hall:allB d.len (nsE d)=true:=allB_yes fun j hj=>hp.2 j (by omega)
   exact hall.symm
 ·trivial
noncomputable def chrS:FSpec:=fun ds _=>match ds with
 | [.s nm,.i k,.i sz,.s f,.s t,.d tg]=>some {val:=.one (.sc (.bool (.sym (chB nm k sz f t tg)))),vc:=[tg.len<=10000000000000]}
 |_=>none
noncomputable def chrC:Con:=con [lCh] chrS
theorem chr_ok:ConOK Tryz.prog 91 chrC:=by
 refine fn_ob tt_ok mixed Tryz.func91 rfl (fun _ _=>by kernel_rfl) (A:=fun ds=>⟨fun _=>Cons.of [(93,nmrC),(132,nurC),(94,nsrC)],fun _=>none,fun _=>none⟩) (fun _ _=>(cons_cons nmr_ok (cons_cons nur_ok (cons_cons nsr_ok cons_nil)))) (by kernel_rfl) ?_
 intro ds fr;unfold chrS;split
 ·rename_i nm k sz f t tg;refine kmp (q:=tg.len<=10000000000000->((nmB nm&&decide (k>=(0:Int))&&decide (k<=(2:Int))&&nuB sz&&nmB f&&nmB t&&decide ((tg.len:Int)>(0:Int)))=true/\True->tg.len<=10000000000000)/\(nmB nm&&decide (k>=(0:Int))&&decide (k<=(2:Int))&&nuB sz&&nmB f&&nmB t&&decide ((tg.len:Int)>(0:Int))&&nsA tg)=chB nm k sz f t tg) (by kernel_rfl) ?_
  intro ht;exact ⟨fun _=>ht,rfl⟩
 ·trivial
noncomputable def rurS:FSpec:=fun ds _=>match ds with
 | [.s nm,.d d]=>some {val:=.one (.sc (.bool (.sym (ruB nm d)))),vc:=[d.len<=10000000000000]}
 |_=>none
noncomputable def rurC:Con:=con [lRu] rurS
theorem rur_ok:ConOK Tryz.prog 92 rurC:=by
 refine fn_ob tt_ok mixed Tryz.func92 rfl (fun _ _=>by kernel_rfl) (A:=fun ds=>⟨fun _=>Cons.of [(93,nmrC),(132,nurC)],fun k=>match k,ds with | 2,[.s nm,.d d]=>some {ι:=Nat,pre:=fun _ i=>i<=d.len/\∀ j,j<i->mvE d j=true,μ:=fun i=>d.len-i,st:=fun s i=>famR s [(8,.one (.sc (.int .i64 (.sym ((i:Int))))))] [1,6,7] [] [1]} |_,_=>none,fun _=>none⟩) (fun _ _=>(cons_cons nmr_ok (cons_cons nur_ok cons_nil))) (by kernel_rfl) ?_
 intro ds fr;unfold rurS;split
 ·rename_i nm d;refine kmp (q:=d.len<=10000000000000->(∃ (i:Nat),(i<=d.len/\∀ (j:Nat),j<i->mvE d j=true)/\(0:Int)=(i:Int)/\d.rows=d.rows/\(d.len:Int)=(d.len:Int)/\Value.string nm=Value.string nm/\d.rows=d.rows)/\∀ (i:Nat),(i<=d.len/\∀ (j:Nat),j<i->mvE d j=true)->(decide ((i:Int)<(d.len:Int))=true->((0:Int)<=(i:Int)/\(i:Int)<(d.len:Int))/\((!nuB (d.el (i:Int).toNat 0).toI || !nmB (d.el (i:Int).toNat 1).toS || !nuB (d.el (i:Int).toNat 2).toI)=true->false=ruB nm d)/\((!nuB (d.el (i:Int).toNat 0).toI || !nmB (d.el (i:Int).toNat 1).toS || !nuB (d.el (i:Int).toNat 2).toI)=false->∃ (j:Nat),(j<=d.len/\∀ (j_1:Nat),j_1<j->mvE d j_1=true)/\d.len-j<d.len-i/\IntKind.i64.wrap ((i:Int)+(1:Int))=(j:Int)/\d.rows=d.rows/\(d.len:Int)=(d.len:Int)/\Value.string nm=Value.string nm/\d.rows=d.rows))/\(decide ((i:Int)<(d.len:Int))=false->nmB nm=ruB nm d)) (by kernel_rfl) ?_
  intro hd;have e0:∀ (i:Nat),((i:Int)).toNat=i:=fun i=>Int.toNat_natCast i
  simp only [Nat.zero_add,Nat.reduceAdd,e0];unfold ruB;refine ⟨⟨0,⟨Nat.zero_le _,fun j hj=>absurd hj (Nat.not_lt_zero j)⟩,by (repeat' apply And.intro)<;>first |trivial |rfl |(intro _ _;rfl) |(intro _ _;trivial)⟩,fun i hp=>⟨fun hl=>?_,fun hl=>?_⟩⟩
  ·have hl:=of_decide_eq_true hl;have hb:=hd;have hi:i<d.len:=by omega
   have hw:IntKind.i64.wrap ((i:Int)+1)=((i+1:Nat):Int):=by rw [IntWalk.i64_in _ (by omega)];omega
   have er:mvE d i = !(!nuB (d.el i 0).toI || !nmB (d.el i 1).toS || !nuB (d.el i 2).toI):=by unfold mvE;simp
   refine ⟨⟨by omega,by omega⟩,fun hq=>?_,fun hq=>?_⟩
   ·have hq:mvE d i=false:=by rw [er,hq];rfl
    rw [allB_no hi hq];rfl
   ·have hq:mvE d i=true:=by rw [er,hq];rfl
    refine ⟨i+1,⟨by omega,fun j hj=>?_⟩,by omega,hw,by (repeat' apply And.intro)<;>first |trivial |rfl |(intro _ _;rfl) |(intro _ _;trivial)⟩
    rcases Nat.lt_or_ge j i with h |h
    ·exact hp.2 j h
    ·obtain rfl:j=i:=by omega
     exact hq
  ·have hl:=of_decide_eq_false hl;have hall:allB d.len (mvE d)=true:=allB_yes fun j hj=>hp.2 j (by omega)
   rw [hall];rfl
 ·trivial
noncomputable def syrS:FSpec:=fun ds _=>match ds with
 | [.d ch,.d ru,.d pr]=>some {val:=.one (.sc (.bool (.sym (syB ch ru pr)))),vc:=[SyOK ch ru pr]}
 |_=>none
noncomputable def syrC:Con:=con [lSy] syrS
theorem syr_ok:ConOK Tryz.prog 52 syrC:=by
 refine fn_ob tt_ok mixed Tryz.func52 rfl (fun _ _=>by kernel_rfl) (A:=fun ds=>⟨fun _=>Cons.of [(93,nmrC),(94,nsrC),(95,bdrC),(91,chrC),(92,rurC)],fun k=>match k,ds with | 2,[.d ch,.d ru,.d pr]=>some {ι:=Nat,pre:=fun _ i=>i<=ch.len/\∀ j,j<i->chE ch j=true,μ:=fun i=>ch.len-i,st:=fun s i=>famR s [(12,.one (.sc (.int .i64 (.sym ((i:Int))))))] [1,10,11] [] [1]} | 8,[.d ch,.d ru,.d pr]=>some {ι:=Nat,pre:=fun _ i=>i<=ru.len/\∀ j,j<i->ruE ru j=true,μ:=fun i=>ru.len-i,st:=fun s i=>famR s [(23,.one (.sc (.int .i64 (.sym ((i:Int))))))] [1,21,22] [] [1]} | 14,[.d ch,.d ru,.d pr]=>some {ι:=Nat,pre:=fun _ i=>i<=pr.len/\∀ j,j<i->prE pr j=true,μ:=fun i=>pr.len-i,st:=fun s i=>famR s [(34,.one (.sc (.int .i64 (.sym ((i:Int))))))] [1,32,33] [] [1]} |_,_=>none,fun _=>none⟩) (fun _ _=>(cons_cons nmr_ok (cons_cons nsr_ok (cons_cons bdr_ok (cons_cons chr_ok (cons_cons rur_ok cons_nil)))))) (by kernel_rfl) ?_
 intro ds fr;unfold syrS;split
 ·rename_i ch ru pr;refine kmp (q:=SyOK ch ru pr->(∃ (i:Nat),(i<=ch.len/\∀ (j:Nat),j<i->chE ch j=true)/\(0:Int)=(i:Int)/\ch.rows=ch.rows/\(ch.len:Int)=(ch.len:Int)/\ch.rows=ch.rows/\ru.rows=ru.rows/\pr.rows=pr.rows)/\∀ (i:Nat),(i<=ch.len/\∀ (j:Nat),j<i->chE ch j=true)->(decide ((i:Int)<(ch.len:Int))=true->((0:Int)<=(i:Int)/\(i:Int)<(ch.len:Int))/\(ch.el (i:Int).toNat 5).len<=10000000000000/\((!chB (ch.el (i:Int).toNat 0).toS (ch.el (i:Int).toNat 1).toI (ch.el (i:Int).toNat 2).toI (ch.el (i:Int).toNat 3).toS (ch.el (i:Int).toNat 4).toS (ch.el (i:Int).toNat 5))=true->false=syB ch ru pr)/\((!chB (ch.el (i:Int).toNat 0).toS (ch.el (i:Int).toNat 1).toI (ch.el (i:Int).toNat 2).toI (ch.el (i:Int).toNat 3).toS (ch.el (i:Int).toNat 4).toS (ch.el (i:Int).toNat 5))=false->∃ (j:Nat),(j<=ch.len/\∀ (j_1:Nat),j_1<j->chE ch j_1=true)/\ch.len-j<ch.len-i/\IntKind.i64.wrap ((i:Int)+(1:Int))=(j:Int)/\ch.rows=ch.rows/\(ch.len:Int)=(ch.len:Int)/\ch.rows=ch.rows/\ru.rows=ru.rows/\pr.rows=pr.rows))/\(decide ((i:Int)<(ch.len:Int))=false->(∃ (i:Nat),(i<=ru.len/\∀ (j:Nat),j<i->ruE ru j=true)/\(0:Int)=(i:Int)/\ru.rows=ru.rows/\(ru.len:Int)=(ru.len:Int)/\ch.rows=ch.rows/\ru.rows=ru.rows/\pr.rows=pr.rows)/\∀ (i:Nat),(i<=ru.len/\∀ (j:Nat),j<i->ruE ru j=true)->(decide ((i:Int)<(ru.len:Int))=true->((0:Int)<=(i:Int)/\(i:Int)<(ru.len:Int))/\(ru.el (i:Int).toNat 1).len<=10000000000000/\((!ruB (ru.el (i:Int).toNat 0).toS (ru.el (i:Int).toNat 1))=true->false=syB ch ru pr)/\((!ruB (ru.el (i:Int).toNat 0).toS (ru.el (i:Int).toNat 1))=false->∃ (j:Nat),(j<=ru.len/\∀ (j_1:Nat),j_1<j->ruE ru j_1=true)/\ru.len-j<ru.len-i/\IntKind.i64.wrap ((i:Int)+(1:Int))=(j:Int)/\ru.rows=ru.rows/\(ru.len:Int)=(ru.len:Int)/\ch.rows=ch.rows/\ru.rows=ru.rows/\pr.rows=pr.rows))/\(decide ((i:Int)<(ru.len:Int))=false->(∃ (i:Nat),(i<=pr.len/\∀ (j:Nat),j<i->prE pr j=true)/\(0:Int)=(i:Int)/\pr.rows=pr.rows/\(pr.len:Int)=(pr.len:Int)/\ch.rows=ch.rows/\ru.rows=ru.rows/\pr.rows=pr.rows)/\∀ (i:Nat),(i<=pr.len/\∀ (j:Nat),j<i->prE pr j=true)->(decide ((i:Int)<(pr.len:Int))=true->((0:Int)<=(i:Int)/\(i:Int)<(pr.len:Int))/\((!nmB (pr.el (i:Int).toNat 0).toS)=false/\True->(pr.el (i:Int).toNat 1).len<=10000000000000)/\((!nmB (pr.el (i:Int).toNat 0).toS || !nsA (pr.el (i:Int).toNat 1))=false/\True->sOK (pr.el (i:Int).toNat 2))/\((!nmB (pr.el (i:Int).toNat 0).toS || !nsA (pr.el (i:Int).toNat 1) || !bA (pr.el (i:Int).toNat 2))=true->false=syB ch ru pr)/\((!nmB (pr.el (i:Int).toNat 0).toS || !nsA (pr.el (i:Int).toNat 1) || !bA (pr.el (i:Int).toNat 2))=false->∃ (j:Nat),(j<=pr.len/\∀ (j_1:Nat),j_1<j->prE pr j_1=true)/\pr.len-j<pr.len-i/\IntKind.i64.wrap ((i:Int)+(1:Int))=(j:Int)/\pr.rows=pr.rows/\(pr.len:Int)=(pr.len:Int)/\ch.rows=ch.rows/\ru.rows=ru.rows/\pr.rows=pr.rows))/\(decide ((i:Int)<(pr.len:Int))=false->true=syB ch ru pr)))) (by kernel_rfl) ?_
  intro hs;have e0:∀ (i:Nat),((i:Int)).toNat=i:=fun i=>Int.toNat_natCast i
  simp only [Nat.zero_add,Nat.reduceAdd,e0];unfold syB;refine ⟨⟨0,⟨Nat.zero_le _,fun j hj=>absurd hj (Nat.not_lt_zero j)⟩,by (repeat' apply And.intro)<;>first |trivial |rfl |(intro _ _;rfl) |(intro _ _;trivial)⟩,fun i hp=>⟨fun hl=>?_,fun hl=>?_⟩⟩
  ·have hl:=of_decide_eq_true hl;have hb:=hs.c;have hi:i<ch.len:=by omega
   have hw:IntKind.i64.wrap ((i:Int)+1)=((i+1:Nat):Int):=by rw [IntWalk.i64_in _ (by omega)];omega
   have v1:=hs.ct i hi;refine ⟨⟨by omega,by omega⟩,v1,fun hq=>?_,fun hq=>?_⟩
   ·have hq:chE ch i=false:=by rw [Bool.not_eq_true'] at hq;exact hq
    rw [allB_no hi hq];rfl
   ·have hq:chE ch i=true:=by rw [Bool.not_eq_false'] at hq;exact hq
    refine ⟨i+1,⟨by omega,fun j hj=>?_⟩,by omega,hw,by (repeat' apply And.intro)<;>first |trivial |rfl |(intro _ _;rfl) |(intro _ _;trivial)⟩
    rcases Nat.lt_or_ge j i with h |h
    ·exact hp.2 j h
    ·obtain rfl:j=i:=by omega
     exact hq
  ·have hl:=of_decide_eq_false hl;have hall:allB ch.len (chE ch)=true:=allB_yes fun j hj=>hp.2 j (by omega)
   have hc:=hall;refine ⟨⟨0,⟨Nat.zero_le _,fun j hj=>absurd hj (Nat.not_lt_zero j)⟩,by (repeat' apply And.intro)<;>first |trivial |rfl |(intro _ _;rfl) |(intro _ _;trivial)⟩,fun i hp=>⟨fun hl=>?_,fun hl=>?_⟩⟩
   ·have hl:=of_decide_eq_true hl;have hb:=hs.r;have hi:i<ru.len:=by omega
    have hw:IntKind.i64.wrap ((i:Int)+1)=((i+1:Nat):Int):=by rw [IntWalk.i64_in _ (by omega)];omega
    have v1:=hs.rm i hi;refine ⟨⟨by omega,by omega⟩,v1,fun hq=>?_,fun hq=>?_⟩
    ·have hq:ruE ru i=false:=by rw [Bool.not_eq_true'] at hq;exact hq
     rw [hc,allB_no hi hq];rfl
    ·have hq:ruE ru i=true:=by rw [Bool.not_eq_false'] at hq;exact hq
     refine ⟨i+1,⟨by omega,fun j hj=>?_⟩,by omega,hw,by (repeat' apply And.intro)<;>first |trivial |rfl |(intro _ _;rfl) |(intro _ _;trivial)⟩
     rcases Nat.lt_or_ge j i with h |h
     ·exact hp.2 j h
     ·obtain rfl:j=i:=by omega
      exact hq
   ·have hl:=of_decide_eq_false hl;have hall:allB ru.len (ruE ru)=true:=allB_yes fun j hj=>hp.2 j (by omega)
    have hr:=hall;refine ⟨⟨0,⟨Nat.zero_le _,fun j hj=>absurd hj (Nat.not_lt_zero j)⟩,by (repeat' apply And.intro)<;>first |trivial |rfl |(intro _ _;rfl) |(intro _ _;trivial)⟩,fun i hp=>⟨fun hl=>?_,fun hl=>?_⟩⟩
    ·have hl:=of_decide_eq_true hl;have hb:=hs.p;have hi:i<pr.len:=by omega
     have hw:IntKind.i64.wrap ((i:Int)+1)=((i+1:Nat):Int):=by rw [IntWalk.i64_in _ (by omega)];omega
     have er:prE pr i = !(!nmB (pr.el i 0).toS || !nsA (pr.el i 1) || !bA (pr.el i 2)):=by unfold prE;simp
     have v1:=hs.pv i hi;have v2:=hs.pb i hi;refine ⟨⟨by omega,by omega⟩,fun _=>v1,fun _=>v2,fun hq=>?_,fun hq=>?_⟩
     ·have hq:prE pr i=false:=by rw [er,hq];rfl
      rw [hc,hr,allB_no hi hq];rfl
     ·have hq:prE pr i=true:=by rw [er,hq];rfl
      refine ⟨i+1,⟨by omega,fun j hj=>?_⟩,by omega,hw,by (repeat' apply And.intro)<;>first |trivial |rfl |(intro _ _;rfl) |(intro _ _;trivial)⟩
      rcases Nat.lt_or_ge j i with h |h
      ·exact hp.2 j h
      ·obtain rfl:j=i:=by omega
       exact hq
    ·have hl:=of_decide_eq_false hl;have hall:allB pr.len (prE pr)=true:=allB_yes fun j hj=>hp.2 j (by omega)
     rw [hall,hc,hr];rfl
 ·trivial
def suB (k:Int):Bool:=k==4 ||k==5
def brB (k i q:Int):Bool:=if k=3 then biB q else if k=4 ∨ k=5 then i==1&&suB q else if k=6 ∨ k=7 ∨ k=8 then suB q ||(i==1&&biB q) else false
def inB (b:Bool):Int:=if b=true then 1 else 0
def xNb (k dp:Int) (q:Nat->Int) (f:Nat->Int->Bool):Bool:=
 if dp>24 then false else if k=3 then f 0 (dp+1+inB (brB 3 0 (q 0))) else if biB k=true then f 0 (dp+inB (brB k 0 (q 0)))&&f 1 (dp+inB (brB k 1 (q 1))) else true
def kN (d:D) (i:Nat) (dp:Int):Bool:=if _h:i<d.len then xNb (d.el i 0).toI dp (fun j=>((d.el i 3).el j 0).toI) (fun j q=>kN (d.el i 3) j q) else true
 termination_by SizeOf.sizeOf d
 decreasing_by exact lel_lt (by assumption)
def xN (k:Int) (d:D) (dp:Int):Bool:=xNb k dp (fun j=>(d.el j 0).toI) (kN d)
theorem kN_eq {d:D} {i:Nat} (h:i<d.len) (dp:Int):kN d i dp=xN (d.el i 0).toI (d.el i 3) dp:=by
 rw [kN,dif_pos h];rfl
theorem aX_kids {k n:Int} {s:ByteArray} {d:D} (h:aX k n s d=true):(k=3->d.len=1/\aE d 0=true)/\(biB k=true->d.len=2/\aE d 0=true/\aE d 1=true):=by
 constructor
 ·rintro rfl;have e:aX 3 n s d=((d.len:Int)==1&&aE d 0):=rfl;rw [e] at h;simp only [Bool.and_eq_true,beq_iff_eq] at h;exact ⟨by omega,h.2⟩
 ·intro hb;rw [aX_bin hb] at h;simp only [Bool.and_eq_true,beq_iff_eq] at h;exact ⟨by omega,h.1.2,h.2⟩
noncomputable def isumS:FSpec:=fun ds _=>match ds with
 | [.i k]=>some {val:=.one (.sc (.bool (.sym (suB k)))),vc:=[]}
 |_=>none
noncomputable def isumC:Con:=con [lI] isumS
theorem isum_ok:ConOK Tryz.prog 197 isumC:=by
 refine fn_ob tt_ok mixed Tryz.func197 rfl (fun _ _=>by kernel_rfl) (A:=fun ds=>⟨fun _=>Cons.of [],fun _=>none,fun _=>none⟩) (fun _ _=>cons_nil) (by kernel_rfl) ?_
 intro ds fr;unfold isumS;split
 ·rename_i k;refine kmp (q:=(k==(4:Int) ||k==(5:Int))=suB k) (by kernel_rfl) ?_
  unfold suB
  cases hk:(k==4)<;>simp
 ·trivial
noncomputable def brrS:FSpec:=fun ds _=>match ds with
 | [.i k,.i _n,.s _s,.d d,.i i]=>some {val:=.one (.sc (.bool (.sym (brB k i (d.el i.toNat 0).toI)))),vc:=[0<=i/\i<d.len]}
 |_=>none
noncomputable def brrC:Con:=con [lX,lI] brrS
theorem brr_ok:ConOK Tryz.prog 186 brrC:=by
 refine fn_ob tt_ok mixed Tryz.func186 rfl (fun _ _=>by kernel_rfl) (A:=fun ds=>⟨fun _=>Cons.of [(173,isbinC),(197,isumC)],fun _=>none,fun _=>none⟩) (fun _ _=>(cons_cons isbin_ok (cons_cons isum_ok cons_nil))) (by kernel_rfl) ?_
 intro ds fr;unfold brrS;split
 ·rename_i k n s d i;refine kmp (q:=(0:Int)<=i/\i<(d.len:Int)->((0:Int)<=i/\i<(d.len:Int))/\((k==(3:Int))=true->biB (d.el i.toNat ((0:Nat)+(0:Nat))).toI=brB k i (d.el i.toNat 0).toI)/\((k==(3:Int))=false->((k==(4:Int))=true->((k==(4:Int))=true->(i==(1:Int)&&suB (d.el i.toNat ((0:Nat)+(0:Nat))).toI)=brB k i (d.el i.toNat 0).toI)/\((k==(4:Int))=false->((k==(6:Int))=true->((k==(6:Int))=true->(suB (d.el i.toNat ((0:Nat)+(0:Nat))).toI ||i==(1:Int)&&biB (d.el i.toNat ((0:Nat)+(0:Nat))).toI)=brB k i (d.el i.toNat 0).toI)/\((k==(6:Int))=false->false=brB k i (d.el i.toNat 0).toI))/\((k==(6:Int))=false->((k==(7:Int))=true->((k==(7:Int))=true->(suB (d.el i.toNat ((0:Nat)+(0:Nat))).toI ||i==(1:Int)&&biB (d.el i.toNat ((0:Nat)+(0:Nat))).toI)=brB k i (d.el i.toNat 0).toI)/\((k==(7:Int))=false->false=brB k i (d.el i.toNat 0).toI))/\((k==(7:Int))=false->((k==(8:Int))=true->(suB (d.el i.toNat ((0:Nat)+(0:Nat))).toI ||i==(1:Int)&&biB (d.el i.toNat ((0:Nat)+(0:Nat))).toI)=brB k i (d.el i.toNat 0).toI)/\((k==(8:Int))=false->false=brB k i (d.el i.toNat 0).toI)))))/\((k==(4:Int))=false->((k==(5:Int))=true->(i==(1:Int)&&suB (d.el i.toNat ((0:Nat)+(0:Nat))).toI)=brB k i (d.el i.toNat 0).toI)/\((k==(5:Int))=false->((k==(6:Int))=true->((k==(6:Int))=true->(suB (d.el i.toNat ((0:Nat)+(0:Nat))).toI ||i==(1:Int)&&biB (d.el i.toNat ((0:Nat)+(0:Nat))).toI)=brB k i (d.el i.toNat 0).toI)/\((k==(6:Int))=false->false=brB k i (d.el i.toNat 0).toI))/\((k==(6:Int))=false->((k==(7:Int))=true->((k==(7:Int))=true->(suB (d.el i.toNat ((0:Nat)+(0:Nat))).toI ||i==(1:Int)&&biB (d.el i.toNat ((0:Nat)+(0:Nat))).toI)=brB k i (d.el i.toNat 0).toI)/\((k==(7:Int))=false->false=brB k i (d.el i.toNat 0).toI))/\((k==(7:Int))=false->((k==(8:Int))=true->(suB (d.el i.toNat ((0:Nat)+(0:Nat))).toI ||i==(1:Int)&&biB (d.el i.toNat ((0:Nat)+(0:Nat))).toI)=brB k i (d.el i.toNat 0).toI)/\((k==(8:Int))=false->false=brB k i (d.el i.toNat 0).toI))))))) (by kernel_rfl) ?_
  intro hi;refine ⟨hi,?_⟩
  by_cases h3:k=3
  ·subst h3;exact ⟨fun _=>rfl,fun h=>(by cases h)⟩
  by_cases h4:k=4
  ·subst h4;exact ⟨fun h=>(by cases h),fun _=>⟨fun _=>⟨fun _=>rfl,fun h=>(by cases h)⟩,fun h=>(by cases h)⟩⟩
  by_cases h5:k=5
  ·subst h5;exact ⟨fun h=>(by cases h),fun _=>⟨fun h=>(by cases h),fun _=>⟨fun _=>rfl,fun h=>(by cases h)⟩⟩⟩
  have n3:(k==(3:Int))=false:=beq_false_of_ne h3;have n4:(k==(4:Int))=false:=beq_false_of_ne h4;have n5:(k==(5:Int))=false:=beq_false_of_ne h5
  by_cases h6:k=6
  ·subst h6;exact ⟨fun h=>(by cases h),fun _=>⟨fun h=>(by cases h),fun _=>⟨fun h=>(by cases h),fun _=>⟨fun _=>⟨fun _=>rfl,fun h=>(by cases h)⟩,fun h=>(by cases h)⟩⟩⟩⟩
  by_cases h7:k=7
  ·subst h7;exact ⟨fun h=>(by cases h),fun _=>⟨fun h=>(by cases h),fun _=>⟨fun h=>(by cases h),fun _=>⟨fun h=>(by cases h),fun _=>⟨fun _=>⟨fun _=>rfl,fun h=>(by cases h)⟩,fun h=>(by cases h)⟩⟩⟩⟩⟩
  by_cases h8:k=8
  ·subst h8;exact ⟨fun h=>(by cases h),fun _=>⟨fun h=>(by cases h),fun _=>⟨fun h=>(by cases h),fun _=>⟨fun h=>(by cases h),fun _=>⟨fun h=>(by cases h),fun _=>⟨fun _=>rfl,fun h=>(by cases h)⟩⟩⟩⟩⟩⟩
  have n6:(k==(6:Int))=false:=beq_false_of_ne h6;have n7:(k==(7:Int))=false:=beq_false_of_ne h7;have n8:(k==(8:Int))=false:=beq_false_of_ne h8;have e:brB k i (d.el i.toNat 0).toI=false:=by
   unfold brB;rw [if_neg h3,if_neg (by omega),if_neg (by omega)]
  rw [n3,n4,n5,n6,n7,n8,e]
  simp
 ·trivial
noncomputable def xdrS:FSpec:=fun ds _=>match ds with
 | [.i k,.i n,.s s,.d d,.i dp]=>some {val:=.one (.sc (.bool (.sym (!xN k d dp)))),vc:=[aX k n s d=true,0<=dp/\dp<=30]}
 |_=>none
noncomputable def xdrC:Con:=con [lX,lI] xdrS
noncomputable def xdrM:List Dat->Nat:=fun ds=>match ds with
 | [.i _k,.i _n,.s _s,.d d,.i _dp]=>SizeOf.sizeOf d
 |_=>0
noncomputable def xdrSu (m:Nat):FSpec:=fun ds _=>match ds with
 | [.i k,.i n,.s s,.d d,.i dp]=>some {val:=.one (.sc (.bool (.sym (!xN k d dp)))),vc:=[SizeOf.sizeOf d<m,aX k n s d=true,0<=dp/\dp<=30]}
 |_=>none
theorem xdr_under (m:Nat):xdrS.under xdrM m=xdrSu m:=by
 funext ds fr
 unfold FSpec.under xdrS xdrM xdrSu;split
 ·rename_i e h
  split at h
  ·obtain rfl:=Option.some.inj h;rfl
  ·cases h
 ·rename_i h
  split at h
  ·cases h
  ·rfl
noncomputable def kdrS (m:Nat):FSpec:=fun ds _=>match ds with
 | [.i k,.i _n,.s _s,.d d,.i i,.i dp]=>some {val:=.one (.sc (.bool (.sym (!kN d i.toNat (dp+inB (brB k i (d.el i.toNat 0).toI)))))),vc:=[SizeOf.sizeOf d<m+1,0<=i/\i<d.len,aE d i.toNat=true,0<=dp/\dp<=29]}
 |_=>none
noncomputable def kdrC (m:Nat):Con:=con [lX,lI,lI] (kdrS m)
theorem kdr_ok {m:Nat} (ih:ConOK Tryz.prog 161 (con [lX,lI] (xdrSu m))):ConOK Tryz.prog 174 (kdrC m):=by
 refine fn_ob tt_ok mixed Tryz.func174 rfl (fun _ _=>by kernel_rfl) (A:=fun ds=>⟨fun _=>Cons.of [(186,brrC),(161,con [lX,lI] (xdrSu m))],fun _=>none,fun _=>none⟩) (fun _ _=>(cons_cons brr_ok (cons_cons ih cons_nil))) (by kernel_rfl) ?_
 intro ds fr;unfold kdrS;split
 ·rename_i k n s d i dp;refine kmp (q:=SizeOf.sizeOf d<m+(1:Nat)->(0:Int)<=i/\i<(d.len:Int)->aE d i.toNat=true->(0:Int)<=dp/\dp<=(29:Int)->((0:Int)<=i/\i<(d.len:Int))/\(brB k i (d.el i.toNat 0).toI=true->((0:Int)<=i/\i<(d.len:Int))/\SizeOf.sizeOf (d.el i.toNat 3)<m/\aX (d.el i.toNat 0).toI (d.el i.toNat 1).toI (d.el i.toNat 2).toS (d.el i.toNat 3)=true/\((0:Int)<=IntKind.i64.wrap (dp+(1:Int))/\IntKind.i64.wrap (dp+(1:Int))<=(30:Int))/\(!xN (d.el i.toNat 0).toI (d.el i.toNat 3) (IntKind.i64.wrap (dp+(1:Int)))) = !kN d i.toNat (dp+inB (brB k i (d.el i.toNat 0).toI)))/\(brB k i (d.el i.toNat 0).toI=false->((0:Int)<=i/\i<(d.len:Int))/\SizeOf.sizeOf (d.el i.toNat 3)<m/\aX (d.el i.toNat 0).toI (d.el i.toNat 1).toI (d.el i.toNat 2).toS (d.el i.toNat 3)=true/\((0:Int)<=dp/\dp<=(30:Int))/\(!xN (d.el i.toNat 0).toI (d.el i.toNat 3) dp) = !kN d i.toNat (dp+inB (brB k i (d.el i.toNat 0).toI)))) (by kernel_rfl) ?_
  intro hm hi ha hd;have hl:i.toNat<d.len:=by omega
  have z:=lel_lt (j:=3) hl;have ha':=ha;rw [aE_eq hl] at ha';refine ⟨hi,fun hb=>⟨hi,by (try simp only [Nat.reduceAdd,Nat.zero_add]);omega,ha',?_,?_⟩,fun hb=>⟨hi,by (try simp only [Nat.reduceAdd,Nat.zero_add]);omega,ha',by omega,?_⟩⟩
  ·rw [IntWalk.i64_in _ (by omega)];omega
  ·rw [IntWalk.i64_in _ (by omega),kN_eq hl,hb];rfl
  ·rw [kN_eq hl,hb];show _ = !xN _ _ (dp+0);rw [Int.add_zero]
 ·trivial
theorem xdr_step (m:Nat) (ih:ConOK Tryz.prog 161 (con [lX,lI] (xdrSu m))):ConOK Tryz.prog 161 (con [lX,lI] (xdrSu (m+1))):=by
 refine fn_ob tt_ok mixed Tryz.func161 rfl (fun _ _=>by kernel_rfl) (A:=fun ds=>⟨fun _=>Cons.of [(173,isbinC),(174,(kdrC m))],fun _=>none,fun _=>none⟩) (fun _ _=>(cons_cons isbin_ok (cons_cons (kdr_ok ih) cons_nil))) (by kernel_rfl) ?_
 intro ds fr;unfold xdrSu;split
 ·rename_i k n s d dp;refine kmp (q:=SizeOf.sizeOf d<m+(1:Nat)->aX k n s d=true->(0:Int)<=dp/\dp<=(30:Int)->(decide (dp>(24:Int))=true->true = !xN k d dp)/\(decide (dp>(24:Int))=false->((k==(3:Int))=true->SizeOf.sizeOf d<m+(1:Nat)/\((0:Int)<=(0:Int)/\(0:Int)<(d.len:Int))/\aE d (Int.toNat (0:Int))=true/\((0:Int)<=IntKind.i64.wrap (dp+(1:Int))/\IntKind.i64.wrap (dp+(1:Int))<=(29:Int))/\(!kN d (Int.toNat (0:Int)) (IntKind.i64.wrap (dp+(1:Int))+inB (brB k (0:Int) (d.el (Int.toNat (0:Int)) (0:Nat)).toI))) = !xN k d dp)/\((k==(3:Int))=false->(biB k=true->SizeOf.sizeOf d<m+(1:Nat)/\((0:Int)<=(0:Int)/\(0:Int)<(d.len:Int))/\aE d (Int.toNat (0:Int))=true/\((0:Int)<=dp/\dp<=(29:Int))/\((!kN d (Int.toNat (0:Int)) (dp+inB (brB k (0:Int) (d.el (Int.toNat (0:Int)) (0:Nat)).toI)))=false/\True->SizeOf.sizeOf d<m+(1:Nat))/\((!kN d (Int.toNat (0:Int)) (dp+inB (brB k (0:Int) (d.el (Int.toNat (0:Int)) (0:Nat)).toI)))=false/\True->(0:Int)<=(1:Int)/\(1:Int)<(d.len:Int))/\((!kN d (Int.toNat (0:Int)) (dp+inB (brB k (0:Int) (d.el (Int.toNat (0:Int)) (0:Nat)).toI)))=false/\True->aE d (Int.toNat (1:Int))=true)/\((!kN d (Int.toNat (0:Int)) (dp+inB (brB k (0:Int) (d.el (Int.toNat (0:Int)) (0:Nat)).toI)))=false/\True->(0:Int)<=dp/\dp<=(29:Int))/\(!kN d (Int.toNat (0:Int)) (dp+inB (brB k (0:Int) (d.el (Int.toNat (0:Int)) (0:Nat)).toI)) || !kN d (Int.toNat (1:Int)) (dp+inB (brB k (1:Int) (d.el (Int.toNat (1:Int)) (0:Nat)).toI))) = !xN k d dp)/\(biB k=false->false = !xN k d dp)))) (by kernel_rfl) ?_
  intro hm ha hd;have hk:=aX_kids ha;refine ⟨fun h=>?_,fun h=>?_⟩
  ·have h:=of_decide_eq_true h;unfold xN xNb;rw [if_pos h];rfl
  ·have h:=of_decide_eq_false h;have hw:IntKind.i64.wrap (dp+1)=dp+1:=IntWalk.i64_in _ (by omega);rw [hw];refine ⟨fun h3=>?_,fun h3=>⟨fun hb=>?_,fun hb=>?_⟩⟩
   ·obtain rfl:=eq_of_beq h3;have k1:=hk.1 rfl;refine ⟨hm,by omega,k1.2,by omega,?_⟩;unfold xN xNb;rw [if_neg h,if_pos rfl];rfl
   ·have k2:=hk.2 hb;refine ⟨hm,by omega,k2.2.1,by omega,fun _=>hm,fun _=>by omega,fun _=>k2.2.2,fun _=>by omega,?_⟩;unfold xN xNb;rw [if_neg h,if_neg (ne_of_beq_false h3),if_pos hb,Bool.not_and];rfl
   ·unfold xN xNb;rw [if_neg h,if_neg (ne_of_beq_false h3),if_neg (by rw [hb];decide)];rfl
 ·trivial
theorem xdr_ok:ConOK Tryz.prog 161 xdrC:=
 con_rec xdrM (fun _ _=>by kernel_rfl) fun m ih=>by
  rw [xdr_under] at ih ⊢;exact xdr_step m ih
def cN (lk:Int) (ld:D) (rk:Int) (rd:D):Bool:=xN lk ld 0&&xN rk rd 0
def stNF (k:Int) (e c b el a:Bool):Bool:=if k=1 ∨ k=4 then e else if k=6 then c else if k=2 then c&&b&&el else if k=3 then c&&b else if k=5 then a else true
def bN (d:D) (b:Int):Bool:=(List.finRange d.len).all fun (i:Fin d.len)=>stNF (d.el i 0).toI (xN (d.el i 3).toI (d.el i 6) 0) (cN (d.el i 8).toI (d.el i 11) (d.el i 12).toI (d.el i 15)) (!decide (b>=24)&&bN (d.el i 16) (b+1)) (bN (d.el i 17) (b+1))
    ((List.finRange (d.el i 18).len).all fun (j:Fin (d.el i 18).len)=>!decide (b>=24)&&bN ((d.el i 18).el j 2) (b+1))
 termination_by SizeOf.sizeOf d
 decreasing_by
  ·exact lel_lt i.isLt
  ·exact lel_lt i.isLt
  ·exact Nat.lt_trans (lel_lt j.isLt) (lel_lt i.isLt)
def blN (d:D) (b:Int):Bool:=!decide (b>=24)&&bN d (b+1)
def amNE (am:D) (b:Int) (j:Nat):Bool:=blN (am.el j 2) b
def amN (am:D) (b:Int):Bool:=allB am.len (amNE am b)
def stN (k:Int) (_nm _tg:ByteArray) (ek _en:Int) (_es:ByteArray) (ed:D) (_op lk _ln:Int) (_ls:ByteArray) (ld:D) (rk _rn:Int) (_rs:ByteArray) (rd bd eb am:D) (b:Int):Bool:=
 stNF k (xN ek ed 0) (cN lk ld rk rd) (blN bd b) (bN eb (b+1)) (amN am b)
def stNE (d:D) (b:Int) (i:Nat):Bool:=stN (d.el i 0).toI (d.el i 1).toS (d.el i 2).toS (d.el i 3).toI (d.el i 4).toI (d.el i 5).toS (d.el i 6) (d.el i 7).toI (d.el i 8).toI (d.el i 9).toI (d.el i 10).toS (d.el i 11) (d.el i 12).toI (d.el i 13).toI (d.el i 14).toS (d.el i 15) (d.el i 16) (d.el i 17) (d.el i 18) b
theorem bN_eq (d:D) (b:Int):bN d b=allB d.len (stNE d b):=by
 rw [bN,<- allF_eq]
 congr 1
 funext i
 unfold stNE stN amN;rw [<- allF_eq];rfl
theorem aC_two {op lk ln rk rn:Int} {ls rs:ByteArray} {ld rd:D} (h:aC op lk ln ls ld rk rn rs rd=true):aX lk ln ls ld=true/\aX rk rn rs rd=true:=by
 unfold aC at h;simp only [Bool.and_eq_true] at h;exact ⟨h.1.2,h.2⟩
noncomputable def cdrS:FSpec:=fun ds _=>match ds with
 | [.i op,.i lk,.i ln,.s ls,.d ld,.i rk,.i rn,.s rs,.d rd]=>some {val:=.one (.sc (.bool (.sym (!cN lk ld rk rd)))),vc:=[aC op lk ln ls ld rk rn rs rd=true]}
 |_=>none
noncomputable def cdrC:Con:=con [lCo] cdrS
theorem cdr_ok:ConOK Tryz.prog 162 cdrC:=by
 refine fn_ob tt_ok mixed Tryz.func162 rfl (fun _ _=>by kernel_rfl) (A:=fun ds=>⟨fun _=>Cons.of [(161,xdrC)],fun _=>none,fun _=>none⟩) (fun _ _=>(cons_cons xdr_ok cons_nil)) (by kernel_rfl) ?_
 intro ds fr;unfold cdrS;split
 ·rename_i op lk ln ls ld rk rn rs rd;refine kmp (q:=aC op lk ln ls ld rk rn rs rd=true->aX lk ln ls ld=true/\((0:Int)<=(0:Int)/\(0:Int)<=(30:Int))/\((!xN lk ld (0:Int))=false/\True->aX rk rn rs rd=true)/\((!xN lk ld (0:Int))=false/\True->(0:Int)<=(0:Int)/\(0:Int)<=(30:Int))/\(!xN lk ld (0:Int) || !xN rk rd (0:Int)) = !cN lk ld rk rd) (by kernel_rfl) ?_
  intro h;have h2:=aC_two h;refine ⟨h2.1,by omega,fun _=>h2.2,fun _=>by omega,?_⟩;unfold cN;rw [Bool.not_and]
 ·trivial
noncomputable def bddS:FSpec:=fun ds _=>match ds with
 | [.d d,.i b]=>some {val:=.one (.sc (.bool (.sym (!bN d b)))),vc:=[sOK d,bA d=true,0<=b/\b<=24]}
 |_=>none
noncomputable def bddC:Con:=con [lBo,lI] bddS
noncomputable def bddM:List Dat->Nat:=fun ds=>match ds with
 | [.d d,.i _b]=>SizeOf.sizeOf d
 |_=>0
noncomputable def bddSu (m:Nat):FSpec:=fun ds _=>match ds with
 | [.d d,.i b]=>some {val:=.one (.sc (.bool (.sym (!bN d b)))),vc:=[SizeOf.sizeOf d<m,sOK d,bA d=true,0<=b/\b<=24]}
 |_=>none
theorem bdd_under (m:Nat):bddS.under bddM m=bddSu m:=by
 funext ds fr
 unfold FSpec.under bddS bddM bddSu;split
 ·rename_i e h
  split at h
  ·obtain rfl:=Option.some.inj h;rfl
  ·cases h
 ·rename_i h
  split at h
  ·cases h
  ·rfl
noncomputable def bkdS (m:Nat):FSpec:=fun ds _=>match ds with
 | [.d d,.i b]=>some {val:=.one (.sc (.bool (.sym (!blN d b)))),vc:=[SizeOf.sizeOf d<m,sOK d,bA d=true,0<=b/\b<=24]}
 |_=>none
noncomputable def bkdC (m:Nat):Con:=con [lBo,lI] (bkdS m)
theorem bkd_ok {m:Nat} (ih:ConOK Tryz.prog 96 (con [lBo,lI] (bddSu m))):ConOK Tryz.prog 163 (bkdC m):=by
 refine fn_ob tt_ok mixed Tryz.func163 rfl (fun _ _=>by kernel_rfl) (A:=fun ds=>⟨fun _=>Cons.of [(96,con [lBo,lI] (bddSu m))],fun _=>none,fun _=>none⟩) (fun _ _=>(cons_cons ih cons_nil)) (by kernel_rfl) ?_
 intro ds fr;unfold bkdS;split
 ·rename_i d b;refine kmp (q:=SizeOf.sizeOf d<m->sOK d->bA d=true->(0:Int)<=b/\b<=(24:Int)->(decide (b>=(24:Int))=false/\True->SizeOf.sizeOf d<m)/\(decide (b>=(24:Int))=false/\True->sOK d)/\(decide (b>=(24:Int))=false/\True->bA d=true)/\(decide (b>=(24:Int))=false/\True->(0:Int)<=IntKind.i64.wrap (b+(1:Int))/\IntKind.i64.wrap (b+(1:Int))<=(24:Int))/\(decide (b>=(24:Int)) || !bN d (IntKind.i64.wrap (b+(1:Int)))) = !blN d b) (by kernel_rfl) ?_
  intro hm hs ha hb;refine ⟨fun _=>hm,fun _=>hs,fun _=>ha,fun h=>?_,?_⟩
  ·have h:=of_decide_eq_false h.1;rw [IntWalk.i64_in _ (by omega)];omega
  ·rw [IntWalk.i64_in _ (by omega)];unfold blN;rw [Bool.not_and,Bool.not_not]
 ·trivial
noncomputable def sddS (m:Nat):FSpec:=fun ds _=>match ds with
 | [.i k,.s nm,.s tg,.i ek,.i en,.s es,.d ed,.i op,.i lk,.i ln,.s ls,.d ld,.i rk,.i rn,.s rs,.d rd,.d bd,.d eb,.d am,.i b]=>some {val:=.one (.sc (.bool (.sym (!stN k nm tg ek en es ed op lk ln ls ld rk rn rs rd bd eb am b)))),vc:=[SizeOf.sizeOf bd<m,SizeOf.sizeOf eb<m,SizeOf.sizeOf am<m,sOK bd,sOK eb,amOK am,stA k nm tg ek en es ed op lk ln ls ld rk rn rs rd bd eb am=true,0<=b/\b<=24]}
 |_=>none
noncomputable def sddC (m:Nat):Con:=con [lSt,lI] (sddS m)
theorem sdd_ok {m:Nat} (ih:ConOK Tryz.prog 96 (con [lBo,lI] (bddSu m))):ConOK Tryz.prog 134 (sddC m):=by
 refine fn_ob tt_ok mixed Tryz.func134 rfl (fun _ _=>by kernel_rfl) (A:=fun ds=>⟨fun _=>Cons.of [(161,xdrC),(162,cdrC),(163,(bkdC m)),(96,con [lBo,lI] (bddSu m))],fun k=>match k,ds with | 13,[.i k,.s nm,.s tg,.i ek,.i en,.s es,.d ed,.i op,.i lk,.i ln,.s ls,.d ld,.i rk,.i rn,.s rs,.d rd,.d bd,.d eb,.d am,.i b]=>some {ι:=Nat,pre:=fun _ i=>i<=am.len/\∀ j,j<i->amNE am b j=true,μ:=fun i=>am.len-i,st:=fun s i=>famR s [(54,.one (.sc (.int .i64 (.sym ((i:Int))))))] [1,52,53] [] []} |_,_=>none,fun _=>none⟩) (fun _ _=>(cons_cons xdr_ok (cons_cons cdr_ok (cons_cons (bkd_ok ih) (cons_cons ih cons_nil))))) (by kernel_rfl) ?_
 intro ds fr;unfold sddS;split
 ·rename_i k nm tg ek en es ed op lk ln ls ld rk rn rs rd bd eb am b
  refine kmp (q:=SizeOf.sizeOf bd<m->SizeOf.sizeOf eb<m->SizeOf.sizeOf am<m->sOK bd->sOK eb->amOK am->stA k nm tg ek en es ed op lk ln ls ld rk rn rs rd bd eb am=true->(0:Int)<=b/\b<=(24:Int)->((k==(1:Int))=true->((k==(1:Int))=true->aX ek en es ed=true/\((0:Int)<=(0:Int)/\(0:Int)<=(30:Int))/\(!xN ek ed (0:Int)) = !stN k nm tg ek en es ed op lk ln ls ld rk rn rs rd bd eb am b)/\((k==(1:Int))=false->((k==(6:Int))=true->aC op lk ln ls ld rk rn rs rd=true/\(!cN lk ld rk rd) = !stN k nm tg ek en es ed op lk ln ls ld rk rn rs rd bd eb am b)/\((k==(6:Int))=false->((k==(2:Int))=true->aC op lk ln ls ld rk rn rs rd=true/\((!cN lk ld rk rd)=false/\True->SizeOf.sizeOf bd<m)/\((!cN lk ld rk rd)=false/\True->sOK bd)/\((!cN lk ld rk rd)=false/\True->bA bd=true)/\((!cN lk ld rk rd)=false/\True->(0:Int)<=b/\b<=(24:Int))/\((!cN lk ld rk rd || !blN bd b)=false/\True->SizeOf.sizeOf eb<m)/\((!cN lk ld rk rd || !blN bd b)=false/\True->sOK eb)/\((!cN lk ld rk rd || !blN bd b)=false/\True->bA eb=true)/\((!cN lk ld rk rd || !blN bd b)=false/\True->(0:Int)<=IntKind.i64.wrap (b+(1:Int))/\IntKind.i64.wrap (b+(1:Int))<=(24:Int))/\(!cN lk ld rk rd || !blN bd b || !bN eb (IntKind.i64.wrap (b+(1:Int)))) = !stN k nm tg ek en es ed op lk ln ls ld rk rn rs rd bd eb am b)/\((k==(2:Int))=false->((k==(3:Int))=true->aC op lk ln ls ld rk rn rs rd=true/\((!cN lk ld rk rd)=false/\True->SizeOf.sizeOf bd<m)/\((!cN lk ld rk rd)=false/\True->sOK bd)/\((!cN lk ld rk rd)=false/\True->bA bd=true)/\((!cN lk ld rk rd)=false/\True->(0:Int)<=b/\b<=(24:Int))/\(!cN lk ld rk rd || !blN bd b) = !stN k nm tg ek en es ed op lk ln ls ld rk rn rs rd bd eb am b)/\((k==(3:Int))=false->((k==(5:Int))=true->(∃ (i:Nat),(i<=am.len/\∀ (j:Nat),j<i->amNE am b j=true)/\(0:Int)=(i:Int)/\b=b/\am.rows=am.rows/\(am.len:Int)=(am.len:Int))/\∀ (i:Nat),(i<=am.len/\∀ (j:Nat),j<i->amNE am b j=true)->(decide ((i:Int)<(am.len:Int))=true->((0:Int)<=(i:Int)/\(i:Int)<(am.len:Int))/\SizeOf.sizeOf (am.el (i:Int).toNat 2)<m/\sOK (am.el (i:Int).toNat 2)/\bA (am.el (i:Int).toNat 2)=true/\((0:Int)<=b/\b<=(24:Int))/\((!blN (am.el (i:Int).toNat 2) b)=true->true = !stN k nm tg ek en es ed op lk ln ls ld rk rn rs rd bd eb am b)/\((!blN (am.el (i:Int).toNat 2) b)=false->∃ (j:Nat),(j<=am.len/\∀ (j_1:Nat),j_1<j->amNE am b j_1=true)/\am.len-j<am.len-i/\IntKind.i64.wrap ((i:Int)+(1:Int))=(j:Int)/\b=b/\am.rows=am.rows/\(am.len:Int)=(am.len:Int)))/\(decide ((i:Int)<(am.len:Int))=false->false = !stN k nm tg ek en es ed op lk ln ls ld rk rn rs rd bd eb am b))/\((k==(5:Int))=false->false = !stN k nm tg ek en es ed op lk ln ls ld rk rn rs rd bd eb am b))))))/\((k==(1:Int))=false->((k==(4:Int))=true->aX ek en es ed=true/\((0:Int)<=(0:Int)/\(0:Int)<=(30:Int))/\(!xN ek ed (0:Int)) = !stN k nm tg ek en es ed op lk ln ls ld rk rn rs rd bd eb am b)/\((k==(4:Int))=false->((k==(6:Int))=true->aC op lk ln ls ld rk rn rs rd=true/\(!cN lk ld rk rd) = !stN k nm tg ek en es ed op lk ln ls ld rk rn rs rd bd eb am b)/\((k==(6:Int))=false->((k==(2:Int))=true->aC op lk ln ls ld rk rn rs rd=true/\((!cN lk ld rk rd)=false/\True->SizeOf.sizeOf bd<m)/\((!cN lk ld rk rd)=false/\True->sOK bd)/\((!cN lk ld rk rd)=false/\True->bA bd=true)/\((!cN lk ld rk rd)=false/\True->(0:Int)<=b/\b<=(24:Int))/\((!cN lk ld rk rd || !blN bd b)=false/\True->SizeOf.sizeOf eb<m)/\((!cN lk ld rk rd || !blN bd b)=false/\True->sOK eb)/\((!cN lk ld rk rd || !blN bd b)=false/\True->bA eb=true)/\((!cN lk ld rk rd || !blN bd b)=false/\True->(0:Int)<=IntKind.i64.wrap (b+(1:Int))/\IntKind.i64.wrap (b+(1:Int))<=(24:Int))/\(!cN lk ld rk rd || !blN bd b || !bN eb (IntKind.i64.wrap (b+(1:Int)))) = !stN k nm tg ek en es ed op lk ln ls ld rk rn rs rd bd eb am b)/\((k==(2:Int))=false->((k==(3:Int))=true->aC op lk ln ls ld rk rn rs rd=true/\((!cN lk ld rk rd)=false/\True->SizeOf.sizeOf bd<m)/\((!cN lk ld rk rd)=false/\True->sOK bd)/\((!cN lk ld rk rd)=false/\True->bA bd=true)/\((!cN lk ld rk rd)=false/\True->(0:Int)<=b/\b<=(24:Int))/\(!cN lk ld rk rd || !blN bd b) = !stN k nm tg ek en es ed op lk ln ls ld rk rn rs rd bd eb am b)/\((k==(3:Int))=false->((k==(5:Int))=true->(∃ (i:Nat),(i<=am.len/\∀ (j:Nat),j<i->amNE am b j=true)/\(0:Int)=(i:Int)/\b=b/\am.rows=am.rows/\(am.len:Int)=(am.len:Int))/\∀ (i:Nat),(i<=am.len/\∀ (j:Nat),j<i->amNE am b j=true)->(decide ((i:Int)<(am.len:Int))=true->((0:Int)<=(i:Int)/\(i:Int)<(am.len:Int))/\SizeOf.sizeOf (am.el (i:Int).toNat 2)<m/\sOK (am.el (i:Int).toNat 2)/\bA (am.el (i:Int).toNat 2)=true/\((0:Int)<=b/\b<=(24:Int))/\((!blN (am.el (i:Int).toNat 2) b)=true->true = !stN k nm tg ek en es ed op lk ln ls ld rk rn rs rd bd eb am b)/\((!blN (am.el (i:Int).toNat 2) b)=false->∃ (j:Nat),(j<=am.len/\∀ (j_1:Nat),j_1<j->amNE am b j_1=true)/\am.len-j<am.len-i/\IntKind.i64.wrap ((i:Int)+(1:Int))=(j:Int)/\b=b/\am.rows=am.rows/\(am.len:Int)=(am.len:Int)))/\(decide ((i:Int)<(am.len:Int))=false->false = !stN k nm tg ek en es ed op lk ln ls ld rk rn rs rd bd eb am b))/\((k==(5:Int))=false->false = !stN k nm tg ek en es ed op lk ln ls ld rk rn rs rd bd eb am b))))))) (by kernel_rfl) ?_
  intro h1 h2 h3 h4 h5 h6 h7 hb
  by_cases n1:k=1
  ·subst n1;have h7:(nmB nm&&aX ek en es ed)=true:=h7;rw [Bool.and_eq_true] at h7;exact ⟨fun _=>⟨fun _=>⟨h7.2,by omega,rfl⟩,fun h=>(by cases h)⟩,fun h=>(by cases h)⟩
  by_cases n4:k=4
  ·subst n4;have h7:(nmB nm&&nmB tg&&aX ek en es ed)=true:=h7;rw [Bool.and_eq_true] at h7;exact ⟨fun h=>(by cases h),fun _=>⟨fun _=>⟨h7.2,by omega,rfl⟩,fun h=>(by cases h)⟩⟩
  refine ⟨fun h=>absurd (eq_of_beq h) n1,fun _=>⟨fun h=>absurd (eq_of_beq h) n4,fun _=>⟨fun k6=>?_,fun k6=>⟨fun k2=>?_,fun k2=>⟨fun k3=>?_,fun k3=>⟨fun k5=>?_,fun k5=>?_⟩⟩⟩⟩⟩⟩
  ·obtain rfl:=eq_of_beq k6;exact ⟨h7,rfl⟩
  ·obtain rfl:=eq_of_beq k2;have h7:(aC op lk ln ls ld rk rn rs rd&&bA bd&&bA eb)=true:=h7;simp only [Bool.and_eq_true] at h7;have hbn:(!cN lk ld rk rd || !blN bd b)=false->b<24:=by
    intro h;rw [Bool.or_eq_false_iff,Bool.not_eq_false',Bool.not_eq_false'] at h;have h:=h.2;unfold blN at h;simp only [Bool.and_eq_true,Bool.not_eq_true',decide_eq_false_iff_not] at h;omega
   refine ⟨h7.1.1,fun _=>h1,fun _=>h4,fun _=>h7.1.2,fun _=>hb,fun _=>h2,fun _=>h5,fun _=>h7.2,fun h=>?_,?_⟩
   ·have:=hbn h.1;rw [IntWalk.i64_in _ (by omega)];omega
   ·rw [IntWalk.i64_in _ (by omega),<- Bool.not_and,<- Bool.not_and];rfl
  ·obtain rfl:=eq_of_beq k3;have h7:(aC op lk ln ls ld rk rn rs rd&&bA bd)=true:=h7;simp only [Bool.and_eq_true] at h7;refine ⟨h7.1,fun _=>h1,fun _=>h4,fun _=>h7.2,fun _=>hb,?_⟩;rw [<- Bool.not_and];rfl
  ·have hb9:=hb;obtain rfl:=eq_of_beq k5;have h7:(nmB nm&&decide ((am.len:Int)>0)&&amsA am)=true:=h7;simp only [Bool.and_eq_true] at h7;have ham:=allB_iff.1 h7.2;have est:stN 5 nm tg ek en es ed op lk ln ls ld rk rn rs rd bd eb am b=amN am b:=rfl;rw [est];unfold amN;have e0:∀ (i:Nat),((i:Int)).toNat=i:=fun i=>Int.toNat_natCast i
   simp only [Nat.zero_add,Nat.reduceAdd,e0];refine ⟨⟨0,⟨Nat.zero_le _,fun j hj=>absurd hj (Nat.not_lt_zero j)⟩,by (repeat' apply And.intro)<;>first |trivial |rfl |(intro _ _;rfl) |(intro _ _;trivial)⟩,fun i hp=>⟨fun hl=>?_,fun hl=>?_⟩⟩
   ·have hl:=of_decide_eq_true hl;have hb:=h6.1;have hi:i<am.len:=by omega
    have hw:IntKind.i64.wrap ((i:Int)+1)=((i+1:Nat):Int):=by rw [IntWalk.i64_in _ (by omega)];omega
    have z1:=lel_lt (j:=2) hi;have s1:=h6.2 i hi;have r1:=ham i hi;unfold arE at r1;simp only [Bool.and_eq_true] at r1;refine ⟨⟨by omega,by omega⟩,by omega,s1,r1.2,hb9,fun hq=>?_,fun hq=>?_⟩
    ·have hq:amNE am b i=false:=by rw [Bool.not_eq_true'] at hq;exact hq
     rw [allB_no hi hq];rfl
    ·have hq:amNE am b i=true:=by rw [Bool.not_eq_false'] at hq;exact hq
     refine ⟨i+1,⟨by omega,fun j hj=>?_⟩,by omega,hw,by (repeat' apply And.intro)<;>first |trivial |rfl |(intro _ _;rfl) |(intro _ _;trivial)⟩
     rcases Nat.lt_or_ge j i with h |h
     ·exact hp.2 j h
     ·obtain rfl:j=i:=by omega
      exact hq
   ·have hl:=of_decide_eq_false hl;have hall:allB am.len (amNE am b)=true:=allB_yes fun j hj=>hp.2 j (by omega)
    rw [hall];rfl
  ·unfold stN stNF;have z6:=ne_of_beq_false k6;have z2:=ne_of_beq_false k2;have z3:=ne_of_beq_false k3;have z5:=ne_of_beq_false k5;rw [if_neg (by omega),if_neg z6,if_neg z2,if_neg z3,if_neg z5];rfl
 ·trivial
theorem bdd_step (m:Nat) (ih:ConOK Tryz.prog 96 (con [lBo,lI] (bddSu m))):ConOK Tryz.prog 96 (con [lBo,lI] (bddSu (m+1))):=by
 refine fn_ob tt_ok mixed Tryz.func96 rfl (fun _ _=>by kernel_rfl) (A:=fun ds=>⟨fun _=>Cons.of [(134,(sddC m))],fun k=>match k,ds with | 2,[.d d,.i b]=>some {ι:=Nat,pre:=fun _ i=>i<=d.len/\∀ j,j<i->stNE d b j=true,μ:=fun i=>d.len-i,st:=fun s i=>famR s [(9,.one (.sc (.int .i64 (.sym ((i:Int))))))] [1,7,8] [] []} |_,_=>none,fun _=>none⟩) (fun _ _=>(cons_cons (sdd_ok ih) cons_nil)) (by kernel_rfl) ?_
 intro ds fr;unfold bddSu;split
 ·rename_i d b;refine kmp (q:=withv (fun (i:Nat)=>d.el (i:Int).toNat 18) fun E26=>withv (fun (i:Nat)=>d.el (i:Int).toNat 17) fun E27=>withv (fun (i:Nat)=>d.el (i:Int).toNat 16) fun E28=>withv (fun (i:Nat)=>d.el (i:Int).toNat 15) fun E29=>withv (fun (i:Nat)=>d.el (i:Int).toNat 14) fun E30=>withv (fun (i:Nat)=>d.el (i:Int).toNat 13) fun E31=>withv (fun (i:Nat)=>d.el (i:Int).toNat 12) fun E32=>withv (fun (i:Nat)=>d.el (i:Int).toNat 11) fun E33=>withv (fun (i:Nat)=>d.el (i:Int).toNat 10) fun E34=>withv (fun (i:Nat)=>d.el (i:Int).toNat 9) fun E35=>withv (fun (i:Nat)=>d.el (i:Int).toNat 8) fun E36=>withv (fun (i:Nat)=>d.el (i:Int).toNat 7) fun E37=>withv (fun (i:Nat)=>d.el (i:Int).toNat 6) fun E38=>withv (fun (i:Nat)=>d.el (i:Int).toNat 5) fun E39=>withv (fun (i:Nat)=>d.el (i:Int).toNat 4) fun E40=>withv (fun (i:Nat)=>d.el (i:Int).toNat 3) fun E41=>withv (fun (i:Nat)=>d.el (i:Int).toNat 2) fun E42=>SizeOf.sizeOf d<m+(1:Nat)->sOK d->bA d=true->(0:Int)<=b/\b<=(24:Int)->(∃ (i:Nat),(i<=d.len/\∀ (j:Nat),j<i->stNE d b j=true)/\(0:Int)=(i:Int)/\b=b/\d.rows=d.rows/\(d.len:Int)=(d.len:Int))/\∀ (i:Nat),(i<=d.len/\∀ (j:Nat),j<i->stNE d b j=true)->(decide ((i:Int)<(d.len:Int))=true->((0:Int)<=(i:Int)/\(i:Int)<(d.len:Int))/\SizeOf.sizeOf (E28 i)<m/\SizeOf.sizeOf (E27 i)<m/\SizeOf.sizeOf (E26 i)<m/\sOK (E28 i)/\sOK (E27 i)/\amOK (E26 i)/\stA (d.el (i:Int).toNat 0).toI (d.el (i:Int).toNat 1).toS (E42 i).toS (E41 i).toI (E40 i).toI (E39 i).toS (E38 i) (E37 i).toI (E36 i).toI (E35 i).toI (E34 i).toS (E33 i) (E32 i).toI (E31 i).toI (E30 i).toS (E29 i) (E28 i) (E27 i) (E26 i)=true/\((0:Int)<=b/\b<=(24:Int))/\((!stN (d.el (i:Int).toNat 0).toI (d.el (i:Int).toNat 1).toS (E42 i).toS (E41 i).toI (E40 i).toI (E39 i).toS (E38 i) (E37 i).toI (E36 i).toI (E35 i).toI (E34 i).toS (E33 i) (E32 i).toI (E31 i).toI (E30 i).toS (E29 i) (E28 i) (E27 i) (E26 i) b)=true->true = !bN d b)/\((!stN (d.el (i:Int).toNat 0).toI (d.el (i:Int).toNat 1).toS (E42 i).toS (E41 i).toI (E40 i).toI (E39 i).toS (E38 i) (E37 i).toI (E36 i).toI (E35 i).toI (E34 i).toS (E33 i) (E32 i).toI (E31 i).toI (E30 i).toS (E29 i) (E28 i) (E27 i) (E26 i) b)=false->∃ (j:Nat),(j<=d.len/\∀ (j_1:Nat),j_1<j->stNE d b j_1=true)/\d.len-j<d.len-i/\IntKind.i64.wrap ((i:Int)+(1:Int))=(j:Int)/\b=b/\d.rows=d.rows/\(d.len:Int)=(d.len:Int)))/\(decide ((i:Int)<(d.len:Int))=false->false = !bN d b)) (by kernel_rfl) ?_
  dsimp +instances only [withv]
  intro hm hs ha hb0;have ha2:=ha;rw [bA_eq] at ha2;have ha2:=allB_iff.1 ha2;have e0:∀ (i:Nat),((i:Int)).toNat=i:=fun i=>Int.toNat_natCast i
  simp only [Nat.zero_add,Nat.reduceAdd,e0];rw [bN_eq];refine ⟨⟨0,⟨Nat.zero_le _,fun j hj=>absurd hj (Nat.not_lt_zero j)⟩,by (repeat' apply And.intro)<;>first |trivial |rfl |(intro _ _;rfl) |(intro _ _;trivial)⟩,fun i hp=>⟨fun hl=>?_,fun hl=>?_⟩⟩
  ·have hl:=of_decide_eq_true hl;have hb:=((sOK_iff d).1 hs).1;have hi:i<d.len:=by omega
   have hw:IntKind.i64.wrap ((i:Int)+1)=((i+1:Nat):Int):=by rw [IntWalk.i64_in _ (by omega)];omega
   have z1:=lel_lt (j:=16) hi;have z2:=lel_lt (j:=17) hi;have z3:=lel_lt (j:=18) hi;obtain ⟨s1,s2,s3⟩:=((sOK_iff d).1 hs).2 i hi;refine ⟨⟨by omega,by omega⟩,by omega,by omega,by omega,s1,s2,s3,ha2 i hi,hb0,fun hq=>?_,fun hq=>?_⟩
   ·have hq:stNE d b i=false:=by rw [Bool.not_eq_true'] at hq;exact hq
    rw [allB_no hi hq];rfl
   ·have hq:stNE d b i=true:=by rw [Bool.not_eq_false'] at hq;exact hq
    refine ⟨i+1,⟨by omega,fun j hj=>?_⟩,by omega,hw,by (repeat' apply And.intro)<;>first |trivial |rfl |(intro _ _;rfl) |(intro _ _;trivial)⟩
    rcases Nat.lt_or_ge j i with h |h
    ·exact hp.2 j h
    ·obtain rfl:j=i:=by omega
     exact hq
  ·have hl:=of_decide_eq_false hl;have hall:allB d.len (stNE d b)=true:=allB_yes fun j hj=>hp.2 j (by omega)
   rw [hall];rfl
 ·trivial
theorem bdd_ok:ConOK Tryz.prog 96 bddC:=
 con_rec bddM (fun _ _=>by kernel_rfl) fun m ih=>by
  rw [bdd_under] at ih ⊢;exact bdd_step m ih
end Go.Proofs.YtplejbgafjpomaaGreatDoor.Sx.Z
namespace Go.Proofs
open Go.Shelf
open Go.RowKit Go.Sort Go.Lib in
def Tryz.laysM171_ren:Go.Shelf.Ren:=⟨fun | 171=>137 | 243=>164 | 246=>175 | 283=>187 | 284=>188 | 285=>189 | 286=>190 | 129=>199 | 317=>198 | 318=>200 | 319=>201 | 320=>202 | 337=>203 | 338=>204 |n=>n,fun | 3=>3 | 9=>9 | 2=>2 | 4=>4 | 171=>289 | 0=>0 | 53=>35 | 37=>91 | 5=>5 | 173=>292 | 212=>297 | 51=>282 | 20=>20 | 213=>298 | 46=>271 | 232=>301 | 233=>302 |n=>n,fun | 17=>0 | 18=>1 | 19=>2 |n=>n⟩
theorem Tryz.laysM171:Go.Proofs.LaysM.n171 Tryz.prog Tryz.laysM171_ren:={
 mixed:=by kernel_rfl
 f129:=Tryz.func199.trans (congrArg some (by kernel_rfl))
 f171:=Tryz.func137.trans (congrArg some (by kernel_rfl))
 f243:=Tryz.func164.trans (congrArg some (by kernel_rfl))
 f246:=Tryz.func175.trans (congrArg some (by kernel_rfl))
 f283:=Tryz.func187.trans (congrArg some (by kernel_rfl))
 f284:=Tryz.func188.trans (congrArg some (by kernel_rfl))
 f285:=Tryz.func189.trans (congrArg some (by kernel_rfl))
 f286:=Tryz.func190.trans (congrArg some (by kernel_rfl))
 f317:=Tryz.func198.trans (congrArg some (by kernel_rfl))
 f318:=Tryz.func200.trans (congrArg some (by kernel_rfl))
 f319:=Tryz.func201.trans (congrArg some (by kernel_rfl))
 f320:=Tryz.func202.trans (congrArg some (by kernel_rfl))
 f337:=Tryz.func203.trans (congrArg some (by kernel_rfl))
 f338:=Tryz.func204.trans (congrArg some (by kernel_rfl))
 t0:=Tryz.underlying0
 a0:=Tryz.isAgg0
 z0:=Tryz.sizeOf0
 v0:=Tryz.zeroValue0
 t2:=Tryz.underlying2
 a2:=Tryz.isAgg2
 z2:=Tryz.sizeOf2
 v2:=Tryz.zeroValue2
 t3:=Tryz.underlying3
 a3:=Tryz.isAgg3
 z3:=Tryz.sizeOf3
 v3:=Tryz.zeroValue3
 t4:=Tryz.underlying4
 a4:=Tryz.isAgg4
 z4:=Tryz.sizeOf4
 v4:=Tryz.zeroValue4
 t5:=Tryz.underlying5
 a5:=Tryz.isAgg5
 z5:=Tryz.sizeOf5
 v5:=Tryz.zeroValue5
 t9:=Tryz.underlying9
 a9:=Tryz.isAgg9
 z9:=Tryz.sizeOf9
 v9:=Tryz.zeroValue9
 t20:=Tryz.underlying20
 a20:=Tryz.isAgg20
 z20:=Tryz.sizeOf20
 v20:=Tryz.zeroValue20
 t37:=Tryz.underlying91
 a37:=Tryz.isAgg91
 z37:=Tryz.sizeOf91
 v37:=Tryz.zeroValue91
 t46:=Tryz.underlying271
 a46:=Tryz.isAgg271
 z46:=Tryz.sizeOf271
 v46:=Tryz.zeroValue271
 t51:=Tryz.underlying282
 a51:=Tryz.isAgg282
 z51:=Tryz.sizeOf282
 v51:=Tryz.zeroValue282
 t53:=Tryz.underlying35
 a53:=Tryz.isAgg35
 z53:=Tryz.sizeOf35
 v53:=Tryz.zeroValue35
 t171:=Tryz.underlying289
 a171:=Tryz.isAgg289
 z171:=Tryz.sizeOf289
 v171:=Tryz.zeroValue289
 t173:=Tryz.underlying292
 a173:=Tryz.isAgg292
 z173:=Tryz.sizeOf292
 v173:=Tryz.zeroValue292
 t212:=Tryz.underlying297
 a212:=Tryz.isAgg297
 z212:=Tryz.sizeOf297
 v212:=Tryz.zeroValue297
 t213:=Tryz.underlying298
 a213:=Tryz.isAgg298
 z213:=Tryz.sizeOf298
 t232:=Tryz.underlying301
 a232:=Tryz.isAgg301
 z232:=Tryz.sizeOf301
 v232:=Tryz.zeroValue301
 t233:=Tryz.underlying302
 a233:=Tryz.isAgg302
 z233:=Tryz.sizeOf302
 v233:=Tryz.zeroValue302
 g17:=by kernel_rfl
 g18:=by kernel_rfl
 g19:=by kernel_rfl
 i0:=by kernel_rfl
 i2:=by kernel_rfl
 i3:=by kernel_rfl
 i4:=by kernel_rfl
 i5:=by kernel_rfl
 i9:=by kernel_rfl
 i20:=by kernel_rfl
 i37:=by kernel_rfl
 i46:=by kernel_rfl
 i51:=by kernel_rfl
 i53:=by kernel_rfl
 i171:=by kernel_rfl
 i173:=by kernel_rfl
 i212:=by kernel_rfl
 i232:=by kernel_rfl
 i233:=by kernel_rfl
 m17:=by kernel_rfl
 m18:=by kernel_rfl
 m19:=by kernel_rfl}
open Go.RowKit Go.Sort Go.Lib in
theorem Tryz.strconv_Itoa (n : Int) (h0 : -9223372036854775808 <= n) (h1 : n <= 9223372036854775807) (w : World) (htab : Lib.TabIs Tryz.prog w "internal/strconv.uint64pow10" .u64 Lib.pow10Tab) :
 Calls Tryz.prog 137 #[.int .i64 n] w fun e w'=>e = .returned (.string ⟨(Lib.itoa n).toArray⟩)/\∃ k os,w'=grow (w.drewN k) os:=Any.strconv_Itoa Tryz.laysM171 n h0 h1 w htab
open Go.RowKit Go.Lib in
def Tryz.lays212_ren:Go.Shelf.Ren:=⟨fun | 212=>166 | 263=>179 | 264=>180 |n=>n,fun | 46=>271 | 51=>282 | 146=>283 | 53=>35 | 148=>285 |n=>n,fun |n=>n⟩
theorem Tryz.lays212:Go.Proofs.Lays.n212 Tryz.prog Tryz.lays212_ren:={
 mixed:=by kernel_rfl
 f212:=Tryz.func166.trans (congrArg some (by kernel_rfl))
 f263:=Tryz.func179.trans (congrArg some (by kernel_rfl))
 f264:=Tryz.func180.trans (congrArg some (by kernel_rfl))
 t46:=Tryz.underlying271
 a46:=Tryz.isAgg271
 z46:=Tryz.sizeOf271
 v46:=Tryz.zeroValue271
 t51:=Tryz.underlying282
 a51:=Tryz.isAgg282
 z51:=Tryz.sizeOf282
 v51:=Tryz.zeroValue282
 t53:=Tryz.underlying35
 a53:=Tryz.isAgg35
 z53:=Tryz.sizeOf35
 v53:=Tryz.zeroValue35
 t146:=Tryz.underlying283
 a146:=Tryz.isAgg283
 z146:=Tryz.sizeOf283
 v146:=Tryz.zeroValue283
 t148:=Tryz.underlying285
 a148:=Tryz.isAgg285
 z148:=Tryz.sizeOf285
 v148:=Tryz.zeroValue285}
open Go.RowKit Go.Lib in
theorem Tryz.bits_Mul (x y:Nat) (hx:x<18446744073709551616) (hy:y<18446744073709551616) (w:World) :
 Calls Tryz.prog 166 #[.int .u64 x,.int .u64 y] w fun e w'=>e = .returned (.tuple #[.int .u64 ((x*y/18446744073709551616:Nat):Int),.int .u64 ((x*y%18446744073709551616:Nat):Int)])/\w'=w:=Any.bits_Mul Tryz.lays212 x y hx hy w
end Go.Proofs
namespace Go.Proofs.YtplejbgafjpomaaGreatDoor.Sx.Z
open Go.RowKit
def prNE (d:D) (i:Nat):Bool:=bN (d.el i 2) 0
def syN (pr:D):Bool:=allB pr.len (prNE pr)
def itW (n:Int):ByteArray:=⟨(Lib.itoa n).toArray⟩
def nI (n:Int):Prop:=-9223372036854775808<=n/\n<=9223372036854775807
def sR (s:ByteArray):List D:=[D.s s]
def cat (w:D) (l:List ByteArray):D:=.l ((w.rows++l.map sR).take 2001)
def wsL (ws:D) (n:Nat):List ByteArray:=(List.range n).map fun j=>(ws.el j 0).toS
theorem cat_len (w:D) (l:List ByteArray):(cat w l).len=min 2001 (w.len+l.length):=by
 show ((w.rows++l.map sR).take 2001).length=_;rw [List.length_take,List.length_append,List.length_map];rfl
theorem cat_le (w:D) (l:List ByteArray):(cat w l).len<=2001:=by rw [cat_len];omega
theorem cat_cat (w:D) (l m:List ByteArray):cat (cat w l) m=cat w (l++m):=by
 unfold cat
 congr 1
 show (((w.rows++l.map sR).take 2001)++m.map sR).take 2001=_;rw [List.map_append,<- List.append_assoc];rw [List.take_append (l₁:=(w.rows++l.map sR).take 2001),List.take_append (l₁:=w.rows++l.map sR),List.take_take,List.length_take,Nat.min_self]
 congr 1
 rcases Nat.le_total 2001 (w.rows++l.map sR).length with h |h
 ·rw [Nat.min_eq_left h,Nat.sub_self,show 2001-(w.rows++l.map sR).length=0 by omega]
 ·rw [Nat.min_eq_right h]
theorem cat_one {w:D} (h:w.len<=2000) (s:ByteArray):cat w [s] = .l (w.rows++[[D.s s]]):=by
 unfold cat;rw [List.take_of_length_le];· rfl
 rw [List.length_append];have:w.rows.length=w.len:=rfl
 simp;omega
theorem cat_full {w:D} (h:w.len=2001) (l:List ByteArray):cat w l=w:=by
 unfold cat;rw [List.take_append_of_le_length (by show 2001<=w.rows.length;rw [show w.rows.length=w.len from rfl];omega),List.take_of_length_le (by rw [show w.rows.length=w.len from rfl];omega)]
 cases w with
 |l r=>rfl
 |i n=>exact absurd (show (0:Nat)=2001 from h) (by decide)
 |b n=>exact absurd (show (0:Nat)=2001 from h) (by decide)
 |s n=>exact absurd (show (0:Nat)=2001 from h) (by decide)
noncomputable def sydS:FSpec:=fun ds _=>match ds with
 | [.d ch,.d ru,.d pr]=>some {val:=.one (.sc (.bool (.sym (!syN pr)))),vc:=[SyOK ch ru pr,syB ch ru pr=true]}
 |_=>none
noncomputable def sydC:Con:=con [lSy] sydS
theorem syd_ok:ConOK Tryz.prog 53 sydC:=by
 refine fn_ob tt_ok mixed Tryz.func53 rfl (fun _ _=>by kernel_rfl) (A:=fun ds=>⟨fun _=>Cons.of [(96,bddC)],fun k=>match k,ds with | 2,[.d ch,.d ru,.d pr]=>some {ι:=Nat,pre:=fun _ i=>i<=pr.len/\∀ j,j<i->prNE pr j=true,μ:=fun i=>pr.len-i,st:=fun s i=>famR s [(8,.one (.sc (.int .i64 (.sym ((i:Int))))))] [6,7] [] []} |_,_=>none,fun _=>none⟩) (fun _ _=>(cons_cons bdd_ok cons_nil)) (by kernel_rfl) ?_
 intro ds fr;unfold sydS;split
 ·rename_i ch ru pr;refine kmp (q:=SyOK ch ru pr->syB ch ru pr=true->(∃ (i:Nat),(i<=pr.len/\∀ (j:Nat),j<i->prNE pr j=true)/\(0:Int)=(i:Int)/\pr.rows=pr.rows/\(pr.len:Int)=(pr.len:Int))/\∀ (i:Nat),(i<=pr.len/\∀ (j:Nat),j<i->prNE pr j=true)->(decide ((i:Int)<(pr.len:Int))=true->((0:Int)<=(i:Int)/\(i:Int)<(pr.len:Int))/\sOK (pr.el (i:Int).toNat 2)/\bA (pr.el (i:Int).toNat 2)=true/\((0:Int)<=(0:Int)/\(0:Int)<=(24:Int))/\((!bN (pr.el (i:Int).toNat 2) (0:Int))=true->true = !syN pr)/\((!bN (pr.el (i:Int).toNat 2) (0:Int))=false->∃ (j:Nat),(j<=pr.len/\∀ (j_1:Nat),j_1<j->prNE pr j_1=true)/\pr.len-j<pr.len-i/\IntKind.i64.wrap ((i:Int)+(1:Int))=(j:Int)/\pr.rows=pr.rows/\(pr.len:Int)=(pr.len:Int)))/\(decide ((i:Int)<(pr.len:Int))=false->false = !syN pr)) (by kernel_rfl) ?_
  intro hs hr;unfold syB at hr;simp only [Bool.and_eq_true] at hr;have hpr:=allB_iff.1 hr.2.2;have e0:∀ (i:Nat),((i:Int)).toNat=i:=fun i=>Int.toNat_natCast i
  simp only [Nat.zero_add,Nat.reduceAdd,e0];unfold syN;refine ⟨⟨0,⟨Nat.zero_le _,fun j hj=>absurd hj (Nat.not_lt_zero j)⟩,by (repeat' apply And.intro)<;>first |trivial |rfl |(intro _ _;rfl) |(intro _ _;trivial)⟩,fun i hp=>⟨fun hl=>?_,fun hl=>?_⟩⟩
  ·have hl:=of_decide_eq_true hl;have hb:=hs.p;have hi:i<pr.len:=by omega
   have hw:IntKind.i64.wrap ((i:Int)+1)=((i+1:Nat):Int):=by rw [IntWalk.i64_in _ (by omega)];omega
   have v2:=hs.pb i hi;have r1:=hpr i hi;unfold prE at r1;simp only [Bool.and_eq_true] at r1;refine ⟨⟨by omega,by omega⟩,v2,r1.2,by omega,fun hq=>?_,fun hq=>?_⟩
   ·have hq:prNE pr i=false:=by rw [Bool.not_eq_true'] at hq;exact hq
    rw [allB_no hi hq];rfl
   ·have hq:prNE pr i=true:=by rw [Bool.not_eq_false'] at hq;exact hq
    refine ⟨i+1,⟨by omega,fun j hj=>?_⟩,by omega,hw,by (repeat' apply And.intro)<;>first |trivial |rfl |(intro _ _;rfl) |(intro _ _;trivial)⟩
    rcases Nat.lt_or_ge j i with h |h
    ·exact hp.2 j h
    ·obtain rfl:j=i:=by omega
     exact hq
  ·have hl:=of_decide_eq_false hl;have hall:allB pr.len (prNE pr)=true:=allB_yes fun j hj=>hp.2 j (by omega)
   rw [hall];rfl
 ·trivial
noncomputable def itS:FSpec:=fun ds _=>match ds with
 | [.i n]=>some {val:=.one (.sc (.raw (.string (itW n)))),vc:=[nI n]}
 |_=>none
noncomputable def itC:Con:=con [lI] itS
noncomputable def clS:FSpec:=fun ds _=>match ds with
 | [.s s]=>some {val:=.one (.sc (.raw (.string (s)))),vc:=[s.size<=281474976710656]}
 |_=>none
noncomputable def clC:Con:=con [.sc .str] clS
theorem it_ok:ConOK Tryz.prog 137 itC:=by
 refine ⟨fun _ _=>by kernel_rfl,fun hp fr args e he hv w0 w ρ vs hw _ ha=>?_,fun _ _ _ _ h=>nomatch (con_jf _ _ _ _ _).symm.trans h⟩;unfold itC con at he
 split at he
 ·rename_i ds ps hds
  split at he
  ·rename_i e1 he1;unfold itS at he1
   split at he1
   ·rename_i n;obtain rfl:=Option.some.inj he1;obtain rfl:=Option.some.inj he;obtain ⟨hp1,hp2⟩:=all_append.1 hv;obtain ⟨svs,h,ρ1,id,hun,_,_,hrel⟩:=unP_spec hw [lI] args _ ps hds hp1 vs ha (ids:=keepOwn hp (idsX hp args)) (fun i hi ho=>keepOwn_mem.2 ⟨hi,ho⟩) 0;obtain rfl:svs=_:=(congrArg Prod.fst (Option.some.inj hun)).symm
    match vs,hrel with
    | [x],⟨hx,_⟩=>
      have hx:x = .int .i64 n:=hx;subst hx;obtain ⟨hn,_⟩:=hp2;obtain ⟨g, hg⟩ := Option.isSome_iff_exists.1 (show (PG.globalNamed "internal/strconv.uint64pow10").isSome = true by kernel_rfl);have ht:=hw.tab g _ ⟨hg,rfl⟩;rw [<- hw.f00] at ht;obtain ⟨T,z,hh⟩:=hw.froz _ _ (hw.sub _ _ ht);have htab : Lib.TabIs Tryz.prog w "internal/strconv.uint64pow10" .u64 Lib.pow10Tab := by
       have hg' : Tryz.prog.globalNamed "internal/strconv.uint64pow10" = some g := hg;unfold Lib.TabIs World.var?;rw [hg'];show (match w.heap[g]? with |some (.cells cs _ _)=>some cs |_=>none)=_;rw [hh]
      refine (Tryz.strconv_Itoa n hn.1 hn.2 w htab).mono ?_
      rintro en w' ⟨rfl,k,os,rfl⟩;have hb:=Lib.below_grow w.heap.size w (Nat.le_refl _) k os;refine ⟨ρ,_,rfl,rfl,⟨fun _ _ h=>h,fun _ _=>rfl,fun _ _ h=>h,rfl,rfl⟩,fun _ _=>rfl,hb.mono (Nat.zero_le _),fun b hlt _=>hb.block b hlt,fun i x hx=>?_,fun i x hx=>?_,fun i j x y hx=>?_,fun b cs hcs=>.inl hcs,rfl⟩
      ·cases hx
      ·cases hx
      ·cases hx
   ·cases he1
  ·cases he
 ·cases he
theorem cl_ok:ConOK Tryz.prog 70 clC:=by
 refine ⟨fun _ _=>by kernel_rfl,fun hp fr args e he hv w0 w ρ vs hw _ ha=>?_,fun _ _ _ _ h=>nomatch (con_jf _ _ _ _ _).symm.trans h⟩;unfold clC con at he
 split at he
 ·rename_i ds ps hds
  split at he
  ·rename_i e1 he1;unfold clS at he1
   split at he1
   ·rename_i s;obtain rfl:=Option.some.inj he1;obtain rfl:=Option.some.inj he;obtain ⟨hp1,hp2⟩:=all_append.1 hv;obtain ⟨svs,h,ρ1,id,hun,_,_,hrel⟩:=unP_spec hw [.sc .str] args _ ps hds hp1 vs ha (ids:=keepOwn hp (idsX hp args)) (fun i hi ho=>keepOwn_mem.2 ⟨hi,ho⟩) 0;obtain rfl:svs=_:=(congrArg Prod.fst (Option.some.inj hun)).symm
    match vs,hrel with
    | [x],⟨hx,_⟩=>
      have hx:x = .string s:=hx;subst hx;refine (clone_any s w hp2.1).mono ?_
      rintro en w' ⟨rfl,hb⟩;refine ⟨ρ,_,rfl,rfl,⟨fun _ _ h=>h,fun _ _=>rfl,fun _ _ h=>h,rfl,rfl⟩,fun _ _=>rfl,hb.mono (Nat.zero_le _),fun b hlt _=>hb.block b hlt,fun i x hx=>?_,fun i x hx=>?_,fun i j x y hx=>?_,fun b cs hcs=>.inl hcs,rfl⟩
      ·cases hx
      ·cases hx
      ·cases hx
   ·cases he1
  ·cases he
 ·cases he
def putD (w ws:D):D:=cat w (wsL ws ws.len)
theorem wsL_succ (ws:D) (n:Nat):wsL ws (n+1)=wsL ws n++[(ws.el n 0).toS]:=by
 unfold wsL;rw [List.range_succ,List.map_append];rfl
theorem wsL_add (ws:D) (n:Nat):∀ m,∃ l,wsL ws (n+m)=wsL ws n++l
 | 0=>⟨[],by simp⟩
 |m+1=>by
  obtain ⟨l,h⟩:=wsL_add ws n m;exact ⟨l++[(ws.el (n+m) 0).toS],by rw [<- Nat.add_assoc,wsL_succ,h,List.append_assoc]⟩
theorem cat_stop {w ws:D} {i:Nat} (hi:i<=ws.len) (h:(cat w (wsL ws i)).len>2000):putD w ws=cat w (wsL ws i):=by
 obtain ⟨l,e⟩:=wsL_add ws i (ws.len-i);have h1:=cat_le w (wsL ws i);unfold putD;rw [show ws.len=i+(ws.len-i) by omega,e,<- cat_cat,cat_full (by omega)]
noncomputable def tooMS:List Dat->Option (Eff × List Seg):=fun ds=>match ds with
 | [.d w]=>some ({val:=.one (.sc (.bool (.sym (decide ((w.len:Int)>2000))))),vc:=[w.len<=10000000000000],nw:=[(0,.orow 9 (w))]},[.c (.osl 9 0 (.lit 0) (.sym (w).len))])
 |_=>none
noncomputable def tooMC:Con:=conM 174 [.own 9] [] tooMS
theorem tooM_ok:ConOK Tryz.prog 55 tooMC:=by
 refine fn_obM tt_ok mixed Tryz.func55 rfl (fun _ _=>by kernel_rfl) (A:=fun ds=>⟨fun _=>Cons.of [],fun _=>none,fun _=>none⟩) (fun _ _=>cons_nil) (by kernel_rfl) ?_
 intro ds;unfold tooMS;split
 ·rename_i w;refine kmp (q:=w.len<=10000000000000->decide ((w.len:Int)>(2000:Int))=decide ((w.len:Int)>(2000:Int))/\w.len=w.len/\w.rows=w.rows) (by kernel_rfl) ?_
  intro _;exact ⟨rfl,rfl,rfl⟩
 ·trivial
noncomputable def putS:List Dat->Option (Eff × List Seg):=fun ds=>match ds with
 | [.d w,.d ws]=>some ({val:=.tup [],vc:=[w.len<=2001,ws.len<=1000,∀ j,j<ws.len->(ws.el j 0).toS.size<=281474976710656],nw:=[(0,.orow 9 (putD w ws))]},[.c (.osl 9 0 (.lit 0) (.sym (putD w ws).len))])
 |_=>none
noncomputable def putC:Con:=conM 174 [.own 9] [lNs] putS
theorem put_ok:ConOK Tryz.prog 135 putC:=by
 refine fn_obM tt_ok mixed Tryz.func135 rfl (fun _ _=>by kernel_rfl) (A:=fun ds=>⟨fun _=>Cons.of [(55,tooMC),(70,clC)],fun k=>match k,ds with | 1,[.d w,.d ws]=>some {ι:=Nat,pre:=fun _ i=>i<=ws.len,μ:=fun i=>ws.len-i,st:=fun s i=>famR s [(8,.one (.sc (.int .i64 (.sym ((i:Int))))))] [0,6,7] [(0,.own 174 ([.c (.osl 9 1 (.lit 0) (.sym (cat w (wsL ws i)).len))])),(1,.orow 9 (cat w (wsL ws i)))] []} |_,_=>none,fun _=>none⟩) (fun _ _=>(cons_cons tooM_ok (cons_cons cl_ok cons_nil))) (by kernel_rfl) ?_
 intro ds;unfold putS;split
 ·rename_i w ws;refine kmp (q:=w.len<=2001->ws.len<=1000->(∀ (j:Nat),j<ws.len->(ws.el j 0).toS.size<=281474976710656)->(∃ (i:Nat),i.le ws.len/\(0:Int)=(i:Int)/\ws.rows=ws.rows/\(ws.len:Int)=(ws.len:Int)/\w.len=(cat w (wsL ws i)).len/\w.rows=List.take (2001:Nat) (w.rows++List.map sR (wsL ws i)))/\∀ (i:Nat),i.le ws.len->(decide ((i:Int)<(ws.len:Int))=true->((0:Int)<=(i:Int)/\(i:Int)<(ws.len:Int))/\(0:Nat)=(0:Nat)/\(cat w (wsL ws i)).len=(cat w (wsL ws i)).len/\(cat w (wsL ws i)).len<=10000000000000/\(decide ((↑(cat w (wsL ws i)).len:Int)>(2000:Int))=true->(cat w (wsL ws i)).len=(putD w ws).len/\List.take (2001:Nat) (w.rows++List.map sR (wsL ws i))=List.take (2001:Nat) (w.rows++List.map sR (wsL ws ws.len)))/\(decide ((↑(cat w (wsL ws i)).len:Int)>(2000:Int))=false->(ws.el (i:Int).toNat 0).toS.size<=281474976710656/\(cat w (wsL ws i)).len=(cat w (wsL ws i)).len/\((cat w (wsL ws i)).len+((D.l [[D.s (ws.el (i:Int).toNat 0).toS]]).sub (0:Nat) 1).len)*(16:Nat)<=(140737488355328:Nat)/\(0:Nat)+(1:Nat)<=(D.l [[D.s (ws.el (i:Int).toNat 0).toS]]).len/\∃ (j:Nat),j.le ws.len/\ws.len-j<ws.len-i/\IntKind.i64.wrap ((i:Int)+(1:Int))=(j:Int)/\ws.rows=ws.rows/\(ws.len:Int)=(ws.len:Int)/\(cat w (wsL ws i)).len+((D.l [[D.s (ws.el (i:Int).toNat 0).toS]]).sub (0:Nat) 1).len=(cat w (wsL ws j)).len/\List.take (2001:Nat) (w.rows++List.map sR (wsL ws i))++List.drop (0:Nat) (List.take 1 [[D.s (ws.el (i:Int).toNat 0).toS]])=List.take (2001:Nat) (w.rows++List.map sR (wsL ws j))))/\(decide ((i:Int)<(ws.len:Int))=false->(cat w (wsL ws i)).len=(putD w ws).len/\List.take (2001:Nat) (w.rows++List.map sR (wsL ws i))=List.take (2001:Nat) (w.rows++List.map sR (wsL ws ws.len)))) (by kernel_rfl) ?_
  intro h1 h2 h3;have e0:∀ (i:Nat),((i:Int)).toNat=i:=fun i=>Int.toNat_natCast i
  simp only [e0];refine ⟨⟨0,Nat.zero_le _,rfl,trivial,trivial,?_,?_⟩,fun i hi=>⟨fun hl=>?_,fun hl=>?_⟩⟩
  ·rw [cat_len];show w.len=min 2001 (w.len+0);omega
  ·show w.rows=List.take 2001 (w.rows++[]);rw [List.append_nil,List.take_of_length_le (show w.len<=2001 from h1)]
  ·have hl:=of_decide_eq_true hl;have hi:i<ws.len:=by omega
   have hw:IntKind.i64.wrap ((i:Int)+1)=((i+1:Nat):Int):=by rw [IntWalk.i64_in _ (by omega)];omega
   refine ⟨⟨by omega,by omega⟩,trivial,trivial,by have:=cat_le w (wsL ws i);omega,fun hc=>?_,fun hc=>?_⟩
   ·have hc:=of_decide_eq_true hc;have e:=cat_stop (w:=w) (Nat.le_of_lt hi) (by omega);exact ⟨by rw [e],congrArg D.rows e.symm⟩
   ·have hc:=of_decide_eq_false hc;have e:cat w (wsL ws (i+1))=D.l ((cat w (wsL ws i)).rows++[[D.s (ws.el i 0).toS]]):=by rw [wsL_succ,<- cat_cat,cat_one (by omega)]
    have l1:((D.l [[D.s (ws.el i 0).toS]]).sub 0 (0+1)).len=1:=rfl;rw [l1];refine ⟨h3 i hi,trivial,by omega,Nat.le_refl _,i+1,hi,by omega,hw,trivial,trivial,?_,congrArg D.rows e.symm⟩;rw [e];show _=((cat w (wsL ws i)).rows++[[D.s (ws.el i 0).toS]]).length;rw [List.length_append];rfl
  ·have hl:=of_decide_eq_false hl;have hi:i=ws.len:=by have:i<=ws.len:=hi;omega
   rw [hi];exact ⟨rfl,rfl⟩
 ·trivial
end Go.Proofs.YtplejbgafjpomaaGreatDoor.Sx.Z

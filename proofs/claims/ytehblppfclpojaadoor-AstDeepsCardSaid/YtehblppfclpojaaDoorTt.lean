/-
  The types at hand.
-/
import Derived.Test.YtehblppfclpojaaDoorProg
import Derived.Test.YtehblppfclpojaaDoorSxT
namespace Go.Proofs.YtehblppfclpojaaDoor.Sx.Z
def tt : TT := [(2, ⟨.int .i64, 1, none, [.c (.int .i64 (.lit 0))], none, none, 8⟩),
  (3, ⟨.int .i64, 1, none, [.c (.int .i64 (.lit 0))], none, none, 8⟩),
  (4, ⟨.bool, 1, none, [.c (.bool (.lit false))], none, none, 1⟩),
  (5, ⟨.int .u8, 1, none, [.c (.int .u8 (.lit 0))], none, some ([.int .u8]), 1⟩),
  (9, ⟨.string, 1, none, [.c (.raw (.string ByteArray.empty))], none, some ([.str]), 16⟩),
  (21, ⟨.int .i32, 1, none, [.c (.int .i32 (.lit 0))], none, none, 4⟩),
  (22, ⟨.int .u64, 1, none, [.c (.int .u64 (.lit 0))], none, none, 8⟩),
  (23, ⟨.slice 25, 1, none, [.c .nils], none, none, 24⟩),
  (25, ⟨.struct [(3, 0), (3, 1), (9, 2), (23, 3)], 4, some [.c, .c, .c, .c], [.c (.int .i64 (.lit 0)), .c (.int .i64 (.lit 0)), .c (.raw (.string ByteArray.empty)), .c .nils], none, some ([.int .i64, .int .i64, .str, .slice 25]), 56⟩),
  (27, ⟨.struct [(3, 0), (25, 1), (25, 5)], 9, some [.c, .c, .c, .c, .c, .c, .c, .c, .c], [.c (.int .i64 (.lit 0)), .c (.int .i64 (.lit 0)), .c (.int .i64 (.lit 0)), .c (.raw (.string ByteArray.empty)), .c .nils, .c (.int .i64 (.lit 0)), .c (.int .i64 (.lit 0)), .c (.raw (.string ByteArray.empty)), .c .nils], none, none, 120⟩),
  (28, ⟨.slice 31, 1, none, [.c .nils], none, none, 24⟩),
  (29, ⟨.slice 64, 1, none, [.c .nils], none, none, 24⟩),
  (31, ⟨.struct [(3, 0), (9, 1), (9, 2), (25, 3), (27, 7), (28, 16), (28, 17), (29, 18)], 19, some [.c, .c, .c, .c, .c, .c, .c, .c, .c, .c, .c, .c, .c, .c, .c, .c, .c, .c, .c], [.c (.int .i64 (.lit 0)), .c (.raw (.string ByteArray.empty)), .c (.raw (.string ByteArray.empty)), .c (.int .i64 (.lit 0)), .c (.int .i64 (.lit 0)), .c (.raw (.string ByteArray.empty)), .c .nils, .c (.int .i64 (.lit 0)), .c (.int .i64 (.lit 0)), .c (.int .i64 (.lit 0)), .c (.raw (.string ByteArray.empty)), .c .nils, .c (.int .i64 (.lit 0)), .c (.int .i64 (.lit 0)), .c (.raw (.string ByteArray.empty)), .c .nils, .c .nils, .c .nils, .c .nils], none, some ([.int .i64, .str, .str, .int .i64, .int .i64, .str, .slice 25, .int .i64, .int .i64, .int .i64, .str, .slice 25, .int .i64, .int .i64, .str, .slice 25, .slice 31, .slice 31, .slice 64]), 288⟩),
  (32, ⟨.int .i64, 1, none, [.c (.int .i64 (.lit 0))], none, none, 8⟩),
  (35, ⟨.slice 81, 1, none, [.c .nils], none, none, 24⟩),
  (36, ⟨.slice 84, 1, none, [.c .nils], none, none, 24⟩),
  (37, ⟨.slice 89, 1, none, [.c .nils], none, none, 24⟩),
  (39, ⟨.struct [(35, 0), (36, 1), (37, 2)], 3, some [.c, .c, .c], [.c .nils, .c .nils, .c .nils], none, none, 72⟩),
  (41, ⟨.slice 9, 1, none, [.c .nils], none, none, 24⟩),
  (43, ⟨.struct [(9, 0), (41, 1), (28, 2)], 3, some [.c, .c, .c], [.c (.raw (.string ByteArray.empty)), .c .nils, .c .nils], none, some ([.str, .slice 9, .slice 31]), 64⟩),
  (44, ⟨.slice 43, 1, none, [.c .nils], none, none, 24⟩),
  (45, ⟨.slice 55, 1, none, [.c .nils], none, none, 24⟩),
  (46, ⟨.slice 60, 1, none, [.c .nils], none, none, 24⟩),
  (48, ⟨.struct [(45, 0), (46, 1), (44, 2)], 3, some [.c, .c, .c], [.c .nils, .c .nils, .c .nils], none, none, 72⟩),
  (55, ⟨.struct [(9, 0), (3, 1), (3, 2), (9, 3), (9, 4), (41, 5)], 6, some [.c, .c, .c, .c, .c, .c], [.c (.raw (.string ByteArray.empty)), .c (.int .i64 (.lit 0)), .c (.int .i64 (.lit 0)), .c (.raw (.string ByteArray.empty)), .c (.raw (.string ByteArray.empty)), .c .nils], none, some ([.str, .int .i64, .int .i64, .str, .str, .slice 9]), 88⟩),
  (57, ⟨.struct [(3, 0), (9, 1), (3, 2)], 3, some [.c, .c, .c], [.c (.int .i64 (.lit 0)), .c (.raw (.string ByteArray.empty)), .c (.int .i64 (.lit 0))], none, some ([.int .i64, .str, .int .i64]), 32⟩),
  (58, ⟨.slice 57, 1, none, [.c .nils], none, none, 24⟩),
  (60, ⟨.struct [(9, 0), (58, 1)], 2, some [.c, .c], [.c (.raw (.string ByteArray.empty)), .c .nils], none, some ([.str, .slice 57]), 40⟩),
  (64, ⟨.struct [(9, 0), (9, 1), (28, 2)], 3, some [.c, .c, .c], [.c (.raw (.string ByteArray.empty)), .c (.raw (.string ByteArray.empty)), .c .nils], none, some ([.str, .str, .slice 31]), 56⟩),
  (65, ⟨.slice 69, 1, none, [.c .nils], none, none, 24⟩),
  (69, ⟨.struct [(3, 0), (9, 1), (3, 2), (3, 3)], 4, some [.c, .c, .c, .c], [.c (.int .i64 (.lit 0)), .c (.raw (.string ByteArray.empty)), .c (.int .i64 (.lit 0)), .c (.int .i64 (.lit 0))], none, some ([.int .i64, .str, .int .i64, .int .i64]), 40⟩),
  (72, ⟨.slice 5, 1, none, [.c .nils], none, none, 24⟩),
  (81, ⟨.struct [(9, 0), (3, 1), (3, 2), (9, 3), (9, 4), (41, 5)], 6, some [.c, .c, .c, .c, .c, .c], [.c (.raw (.string ByteArray.empty)), .c (.int .i64 (.lit 0)), .c (.int .i64 (.lit 0)), .c (.raw (.string ByteArray.empty)), .c (.raw (.string ByteArray.empty)), .c .nils], none, some ([.str, .int .i64, .int .i64, .str, .str, .slice 9]), 88⟩),
  (82, ⟨.slice 85, 1, none, [.c .nils], none, none, 24⟩),
  (84, ⟨.struct [(9, 0), (82, 1)], 2, some [.c, .c], [.c (.raw (.string ByteArray.empty)), .c .nils], none, some ([.str, .slice 85]), 40⟩),
  (85, ⟨.struct [(3, 0), (9, 1), (3, 2)], 3, some [.c, .c, .c], [.c (.int .i64 (.lit 0)), .c (.raw (.string ByteArray.empty)), .c (.int .i64 (.lit 0))], none, some ([.int .i64, .str, .int .i64]), 32⟩),
  (86, ⟨.slice 108, 1, none, [.c .nils], none, none, 24⟩),
  (89, ⟨.struct [(9, 0), (41, 1), (86, 2)], 3, some [.c, .c, .c], [.c (.raw (.string ByteArray.empty)), .c .nils, .c .nils], none, some ([.str, .slice 9, .slice 108]), 64⟩),
  (92, ⟨.struct [(41, 0)], 1, some [.c], [.c .nils], none, none, 24⟩),
  (99, ⟨.slice 101, 1, none, [.c .nils], none, none, 24⟩),
  (101, ⟨.struct [(3, 0), (3, 1), (9, 2), (99, 3)], 4, some [.c, .c, .c, .c], [.c (.int .i64 (.lit 0)), .c (.int .i64 (.lit 0)), .c (.raw (.string ByteArray.empty)), .c .nils], none, some ([.int .i64, .int .i64, .str, .slice 101]), 56⟩),
  (104, ⟨.struct [(3, 0), (101, 1), (101, 5)], 9, some [.c, .c, .c, .c, .c, .c, .c, .c, .c], [.c (.int .i64 (.lit 0)), .c (.int .i64 (.lit 0)), .c (.int .i64 (.lit 0)), .c (.raw (.string ByteArray.empty)), .c .nils, .c (.int .i64 (.lit 0)), .c (.int .i64 (.lit 0)), .c (.raw (.string ByteArray.empty)), .c .nils], none, none, 120⟩),
  (106, ⟨.slice 110, 1, none, [.c .nils], none, none, 24⟩),
  (108, ⟨.struct [(3, 0), (9, 1), (9, 2), (101, 3), (104, 7), (86, 16), (86, 17), (106, 18)], 19, some [.c, .c, .c, .c, .c, .c, .c, .c, .c, .c, .c, .c, .c, .c, .c, .c, .c, .c, .c], [.c (.int .i64 (.lit 0)), .c (.raw (.string ByteArray.empty)), .c (.raw (.string ByteArray.empty)), .c (.int .i64 (.lit 0)), .c (.int .i64 (.lit 0)), .c (.raw (.string ByteArray.empty)), .c .nils, .c (.int .i64 (.lit 0)), .c (.int .i64 (.lit 0)), .c (.int .i64 (.lit 0)), .c (.raw (.string ByteArray.empty)), .c .nils, .c (.int .i64 (.lit 0)), .c (.int .i64 (.lit 0)), .c (.raw (.string ByteArray.empty)), .c .nils, .c .nils, .c .nils, .c .nils], none, some ([.int .i64, .str, .str, .int .i64, .int .i64, .str, .slice 101, .int .i64, .int .i64, .int .i64, .str, .slice 101, .int .i64, .int .i64, .str, .slice 101, .slice 108, .slice 108, .slice 110]), 288⟩),
  (110, ⟨.struct [(9, 0), (9, 1), (86, 2)], 3, some [.c, .c, .c], [.c (.raw (.string ByteArray.empty)), .c (.raw (.string ByteArray.empty)), .c .nils], none, some ([.str, .str, .slice 108]), 56⟩),
  (147, ⟨.int .u32, 1, none, [.c (.int .u32 (.lit 0))], none, none, 4⟩),
  (149, ⟨.int .u64, 1, none, [.c (.int .u64 (.lit 0))], none, none, 8⟩)]
theorem tt_ok : TTOK Tryd.prog tt := ttAll_ok rfl ⟨by kernel_rfl, trivial, by kernel_rfl, trivial, by kernel_rfl, trivial, by kernel_rfl, ⟨by kernel_rfl, by kernel_rfl, by kernel_rfl⟩, by kernel_rfl, ⟨by kernel_rfl, by kernel_rfl, by kernel_rfl⟩, by kernel_rfl, trivial, by kernel_rfl, trivial, by kernel_rfl, trivial, by kernel_rfl, ⟨by kernel_rfl, by kernel_rfl, by kernel_rfl⟩, by kernel_rfl, trivial, by kernel_rfl, trivial, by kernel_rfl, trivial, by kernel_rfl, ⟨by kernel_rfl, by kernel_rfl, by kernel_rfl⟩, by kernel_rfl, trivial, by kernel_rfl, trivial, by kernel_rfl, trivial, by kernel_rfl, trivial, by kernel_rfl, trivial, by kernel_rfl, trivial, by kernel_rfl, ⟨by kernel_rfl, by kernel_rfl, by kernel_rfl⟩, by kernel_rfl, trivial, by kernel_rfl, trivial, by kernel_rfl, trivial, by kernel_rfl, trivial, by kernel_rfl, ⟨by kernel_rfl, by kernel_rfl, by kernel_rfl⟩, by kernel_rfl, ⟨by kernel_rfl, by kernel_rfl, by kernel_rfl⟩, by kernel_rfl, trivial, by kernel_rfl, ⟨by kernel_rfl, by kernel_rfl, by kernel_rfl⟩, by kernel_rfl, ⟨by kernel_rfl, by kernel_rfl, by kernel_rfl⟩, by kernel_rfl, trivial, by kernel_rfl, ⟨by kernel_rfl, by kernel_rfl, by kernel_rfl⟩, by kernel_rfl, trivial, by kernel_rfl, ⟨by kernel_rfl, by kernel_rfl, by kernel_rfl⟩, by kernel_rfl, trivial, by kernel_rfl, ⟨by kernel_rfl, by kernel_rfl, by kernel_rfl⟩, by kernel_rfl, ⟨by kernel_rfl, by kernel_rfl, by kernel_rfl⟩, by kernel_rfl, trivial, by kernel_rfl, ⟨by kernel_rfl, by kernel_rfl, by kernel_rfl⟩, by kernel_rfl, trivial, by kernel_rfl, trivial, by kernel_rfl, ⟨by kernel_rfl, by kernel_rfl, by kernel_rfl⟩, by kernel_rfl, trivial, by kernel_rfl, trivial, by kernel_rfl, ⟨by kernel_rfl, by kernel_rfl, by kernel_rfl⟩, by kernel_rfl, ⟨by kernel_rfl, by kernel_rfl, by kernel_rfl⟩, by kernel_rfl, trivial, by kernel_rfl, trivial, trivial⟩
theorem kall : kAll tt = true := by kernel_rfl
theorem mixed : Tryd.prog.follows .mixedOrders = true := by kernel_rfl
end Go.Proofs.YtehblppfclpojaaDoor.Sx.Z

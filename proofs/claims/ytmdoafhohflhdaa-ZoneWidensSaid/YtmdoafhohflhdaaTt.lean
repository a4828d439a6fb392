/-
  The types at hand.
-/
import Derived.Test.YtmdoafhohflhdaaProg
import Derived.Test.YtmdoafhohflhdaaSxT
namespace Go.Proofs.Ytmdoafhohflhdaa.Sx.Z
def tt : TT := [(2, ⟨.int .i64, 1, none, [.c (.int .i64 (.lit 0))], none, none, 8⟩),
  (3, ⟨.int .i64, 1, none, [.c (.int .i64 (.lit 0))], none, some ([.int .i64]), 8⟩),
  (4, ⟨.bool, 1, none, [.c (.bool (.lit false))], none, none, 1⟩),
  (5, ⟨.int .u8, 1, none, [.c (.int .u8 (.lit 0))], none, none, 1⟩),
  (9, ⟨.string, 1, none, [.c (.raw (.string ByteArray.empty))], none, none, 16⟩),
  (21, ⟨.int .i32, 1, none, [.c (.int .i32 (.lit 0))], none, some ([.int .i32]), 4⟩),
  (22, ⟨.slice 44, 1, none, [.c .nils], none, some ([.slice 44]), 24⟩),
  (23, ⟨.int .u64, 1, none, [.c (.int .u64 (.lit 0))], none, none, 8⟩),
  (24, ⟨.array 7 3, 7, some [.ints .i64 7], [.ints .i64 (.lit 7) (fun _ => 0)], some [(.i .i64, 7)], none, 56⟩),
  (25, ⟨.array 7 24, 49, some [.ints .i64 49], [.ints .i64 (.lit 49) (fun _ => 0)], some [(.i .i64, 49)], none, 392⟩),
  (27, ⟨.struct [(3, 0), (4, 1), (25, 2)], 51, some [.c, .c, .ints .i64 49], [.c (.int .i64 (.lit 0)), .c (.bool (.lit false)), .ints .i64 (.lit 49) (fun _ => 0)], some [(.i .i64, 1), (.b, 1), (.i .i64, 49)], none, 408⟩),
  (29, ⟨.struct [(3, 0), (4, 1), (25, 2)], 51, some [.c, .c, .ints .i64 49], [.c (.int .i64 (.lit 0)), .c (.bool (.lit false)), .ints .i64 (.lit 49) (fun _ => 0)], some [(.i .i64, 1), (.b, 1), (.i .i64, 49)], none, 408⟩),
  (37, ⟨.struct [(3, 0), (3, 1)], 2, some [.c, .c], [.c (.int .i64 (.lit 0)), .c (.int .i64 (.lit 0))], some [(.i .i64, 1), (.i .i64, 1)], none, 16⟩),
  (41, ⟨.array 6 21, 6, some [.ints .i32 6], [.ints .i32 (.lit 6) (fun _ => 0)], some [(.i .i32, 6)], none, 24⟩),
  (42, ⟨.slice 3, 1, none, [.c .nils], none, none, 24⟩),
  (44, ⟨.struct [(3, 0), (3, 1), (3, 2), (3, 3)], 4, some [.c, .c, .c, .c], [.c (.int .i64 (.lit 0)), .c (.int .i64 (.lit 0)), .c (.int .i64 (.lit 0)), .c (.int .i64 (.lit 0))], some [(.i .i64, 1), (.i .i64, 1), (.i .i64, 1), (.i .i64, 1)], some ([.int .i64, .int .i64, .int .i64, .int .i64]), 32⟩),
  (55, ⟨.slice 22, 1, none, [.c .nils], none, none, 24⟩),
  (58, ⟨.slice 21, 1, none, [.c .nils], none, none, 24⟩),
  (82, ⟨.int .u32, 1, none, [.c (.int .u32 (.lit 0))], none, none, 4⟩)]
theorem tt_ok : TTOK Try.prog tt := ttAll_ok ⟨by kernel_rfl, trivial, by kernel_rfl, ⟨by kernel_rfl, by kernel_rfl, by kernel_rfl⟩, by kernel_rfl, trivial, by kernel_rfl, trivial, by kernel_rfl, trivial, by kernel_rfl, ⟨by kernel_rfl, by kernel_rfl, by kernel_rfl⟩, by kernel_rfl, ⟨by kernel_rfl, by kernel_rfl, by kernel_rfl⟩, by kernel_rfl, trivial, by kernel_rfl, trivial, by kernel_rfl, trivial, by kernel_rfl, trivial, by kernel_rfl, trivial, by kernel_rfl, trivial, by kernel_rfl, trivial, by kernel_rfl, trivial, by kernel_rfl, ⟨by kernel_rfl, by kernel_rfl, by kernel_rfl⟩, by kernel_rfl, trivial, by kernel_rfl, trivial, by kernel_rfl, trivial, trivial⟩
theorem kall : kAll tt = true := by kernel_rfl
theorem mixed : Try.prog.follows .mixedOrders = true := by kernel_rfl
end Go.Proofs.Ytmdoafhohflhdaa.Sx.Z

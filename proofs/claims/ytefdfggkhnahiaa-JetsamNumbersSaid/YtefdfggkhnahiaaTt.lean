/-
  The types at hand.
-/
import Derived.Test.YtefdfggkhnahiaaProg
import Derived.Test.YtefdfggkhnahiaaSxT
namespace Go.Proofs.Ytefdfggkhnahiaa.Sx.Z
def tt : TT := [(2, ⟨.int .i64, 1, none, [.c (.int .i64 (.lit 0))], none, none, 8⟩),
  (3, ⟨.int .i64, 1, none, [.c (.int .i64 (.lit 0))], none, some ([.int .i64]), 8⟩),
  (4, ⟨.bool, 1, none, [.c (.bool (.lit false))], none, none, 1⟩),
  (5, ⟨.int .u8, 1, none, [.c (.int .u8 (.lit 0))], none, some ([.int .u8]), 1⟩),
  (9, ⟨.string, 1, none, [.c (.raw (.string ByteArray.empty))], none, none, 16⟩),
  (21, ⟨.int .i32, 1, none, [.c (.int .i32 (.lit 0))], none, none, 4⟩),
  (22, ⟨.slice 50, 1, none, [.c .nils], none, none, 24⟩),
  (23, ⟨.int .u64, 1, none, [.c (.int .u64 (.lit 0))], none, none, 8⟩),
  (24, ⟨.slice 53, 1, none, [.c .nils], none, none, 24⟩),
  (25, ⟨.array 7 3, 7, some [.ints .i64 7], [.ints .i64 (.lit 7) (fun _ => 0)], some [(.i .i64, 7)], none, 56⟩),
  (26, ⟨.array 7 25, 49, some [.ints .i64 49], [.ints .i64 (.lit 49) (fun _ => 0)], some [(.i .i64, 49)], none, 392⟩),
  (28, ⟨.struct [(3, 0), (4, 1), (26, 2)], 51, some [.c, .c, .ints .i64 49], [.c (.int .i64 (.lit 0)), .c (.bool (.lit false)), .ints .i64 (.lit 49) (fun _ => 0)], some [(.i .i64, 1), (.b, 1), (.i .i64, 49)], none, 408⟩),
  (30, ⟨.struct [(4, 0), (24, 1), (28, 2)], 53, some [.c, .c, .c, .c, .ints .i64 49], [.c (.bool (.lit false)), .c .nils, .c (.int .i64 (.lit 0)), .c (.bool (.lit false)), .ints .i64 (.lit 49) (fun _ => 0)], none, none, 440⟩),
  (32, ⟨.struct [(3, 0), (4, 1), (26, 2)], 51, some [.c, .c, .ints .i64 49], [.c (.int .i64 (.lit 0)), .c (.bool (.lit false)), .ints .i64 (.lit 49) (fun _ => 0)], some [(.i .i64, 1), (.b, 1), (.i .i64, 49)], none, 408⟩),
  (36, ⟨.struct [(3, 0), (3, 1)], 2, some [.c, .c], [.c (.int .i64 (.lit 0)), .c (.int .i64 (.lit 0))], some [(.i .i64, 1), (.i .i64, 1)], none, 16⟩),
  (47, ⟨.array 4 21, 4, some [.ints .i32 4], [.ints .i32 (.lit 4) (fun _ => 0)], some [(.i .i32, 4)], none, 16⟩),
  (48, ⟨.slice 3, 1, none, [.c .nils], none, none, 24⟩),
  (50, ⟨.struct [(3, 0), (3, 1), (3, 2), (3, 3), (36, 4)], 6, some [.c, .c, .c, .c, .c, .c], [.c (.int .i64 (.lit 0)), .c (.int .i64 (.lit 0)), .c (.int .i64 (.lit 0)), .c (.int .i64 (.lit 0)), .c (.int .i64 (.lit 0)), .c (.int .i64 (.lit 0))], some [(.i .i64, 1), (.i .i64, 1), (.i .i64, 1), (.i .i64, 1), (.i .i64, 1), (.i .i64, 1)], some ([.int .i64, .int .i64, .int .i64, .int .i64, .int .i64, .int .i64]), 48⟩),
  (53, ⟨.struct [(3, 0), (3, 1)], 2, some [.c, .c], [.c (.int .i64 (.lit 0)), .c (.int .i64 (.lit 0))], some [(.i .i64, 1), (.i .i64, 1)], some ([.int .i64, .int .i64]), 16⟩),
  (65, ⟨.int .i16, 1, none, [.c (.int .i16 (.lit 0))], none, none, 2⟩),
  (66, ⟨.array 2 65, 2, some [.ints .i16 2], [.ints .i16 (.lit 2) (fun _ => 0)], some [(.i .i16, 2)], none, 4⟩),
  (84, ⟨.slice 89, 1, none, [.c .nils], none, none, 24⟩),
  (102, ⟨.slice 5, 1, none, [.c .nils], none, none, 24⟩),
  (111, ⟨.int .u32, 1, none, [.c (.int .u32 (.lit 0))], none, none, 4⟩)]
theorem tt_ok : TTOK Try.prog tt := ttAll_ok ⟨by kernel_rfl, trivial, by kernel_rfl, ⟨by kernel_rfl, by kernel_rfl, by kernel_rfl⟩, by kernel_rfl, trivial, by kernel_rfl, ⟨by kernel_rfl, by kernel_rfl, by kernel_rfl⟩, by kernel_rfl, trivial, by kernel_rfl, trivial, by kernel_rfl, trivial, by kernel_rfl, trivial, by kernel_rfl, trivial, by kernel_rfl, trivial, by kernel_rfl, trivial, by kernel_rfl, trivial, by kernel_rfl, trivial, by kernel_rfl, trivial, by kernel_rfl, trivial, by kernel_rfl, trivial, by kernel_rfl, trivial, by kernel_rfl, ⟨by kernel_rfl, by kernel_rfl, by kernel_rfl⟩, by kernel_rfl, ⟨by kernel_rfl, by kernel_rfl, by kernel_rfl⟩, by kernel_rfl, trivial, by kernel_rfl, trivial, by kernel_rfl, trivial, by kernel_rfl, trivial, by kernel_rfl, trivial, trivial⟩
theorem kall : kAll tt = true := by kernel_rfl
theorem mixed : Try.prog.follows .mixedOrders = true := by kernel_rfl
end Go.Proofs.Ytefdfggkhnahiaa.Sx.Z

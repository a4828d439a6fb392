/-
  parse: the statements that hold no others.
-/
import Derived.Test.YtbhbjhejkamlnaaPv
namespace Go.Proofs.Ytbhbjhejkamlnaa.Sx.Z
open Go.RowKit
def eqB : ByteArray := ⟨#[61]⟩
def seB : ByteArray := ⟨#[59]⟩
def doB : ByteArray := ⟨#[46]⟩
def kwS : ByteArray := ⟨#[115, 101, 110, 100]⟩
def kwA : ByteArray := ⟨#[97, 115, 115, 101, 114, 116]⟩
def kwI : ByteArray := ⟨#[105, 110, 112, 117, 116]⟩
def asE (ws : D) (en : Int) (r : Rd) : Xp × Rd := smX en ws 0 (exR ws en eqB (nmR ws en r))
def asR (ws : D) (en : Int) (r : Rd) : Rd := exR ws en seB (asE ws en r).2
def snN (ws : D) (en : Int) (r : Rd) : Rd := exR ws en kwS r
def snT (ws : D) (en : Int) (r : Rd) : Rd := exR ws en doB (nmR ws en (snN ws en r))
def snE (ws : D) (en : Int) (r : Rd) : Xp × Rd := smX en ws 0 (exR ws en opB (nmR ws en (snT ws en r)))
def snR (ws : D) (en : Int) (r : Rd) : Rd := exR ws en seB (exR ws en clB (snE ws en r).2)
def atC (ws : D) (en : Int) (r : Rd) : Cd := cdC ws en (exR ws en kwA r)
def atR (ws : D) (en : Int) (r : Rd) : Rd := exR ws en seB (cdR ws en (exR ws en kwA r))
def inR (ws : D) (en : Int) (r : Rd) : Rd := exR ws en seB (nmR ws en (exR ws en kwI r))
noncomputable def asgS : List Dat → Option (Eff × List Seg) := fun ds => match ds with
  | [.d ws, .i nx, .i en, .i pa, .i er] => some ({ val := .one (.agg [.c (.int .i64 (.sym 1)), .c (.raw (.string (nmS ws (mR nx pa er)))), .c (.raw (.string (ByteArray.empty))), .c (.int .i64 (.sym ((asE ws en (mR nx pa er)).1).k)), .c (.int .i64 (.sym ((asE ws en (mR nx pa er)).1).n)), .c (.raw (.string ((asE ws en (mR nx pa er)).1).s)), .c (.osl 90 0 (.lit 0) (.sym ((asE ws en (mR nx pa er)).1).d.len)), .c (.int .i64 (.sym 0)), .c (.int .i64 (.sym 0)), .c (.int .i64 (.sym 0)), .c (.raw (.string ByteArray.empty)), .c .nils, .c (.int .i64 (.sym 0)), .c (.int .i64 (.sym 0)), .c (.raw (.string ByteArray.empty)), .c .nils, .c .nils, .c .nils, .c .nils]), vc := [rdOK ws nx], nw := [(0, .orow 90 (asE ws en (mR nx pa er)).1.d)] }, [.c (.rows 115 ws), .c (.int .i64 (.sym ((asR ws en (mR nx pa er)).nx))), .c (.int .i64 (.sym en)), .c (.int .i64 (.sym ((asR ws en (mR nx pa er)).pa))), .c (.int .i64 (.sym ((asR ws en (mR nx pa er)).er)))])
  | _ => none
noncomputable def asgC : Con := conM 64 [.c (.rows 115), .c (.int .i64), .c (.int .i64), .c (.int .i64), .c (.int .i64)] [] asgS
theorem asg_ok : ConOK Try.prog 91 asgC := by
  refine fn_obM tt_ok mixed Try.func91 rfl (fun _ _ => by kernel_rfl) (A := fun ds => ⟨fun _ => Cons.of [(99, (partC smX 1000001)), (71, expC), (68, namC)], fun _ => none, fun _ => none⟩) (fun _ _ => (cons_cons smX_ok (cons_cons exp_ok (cons_cons nam_ok cons_nil)))) (by kernel_rfl) ?_
  intro ds
  unfold asgS
  split
  · rename_i ws nx en pa er
    refine kmp (q := rdOK ws nx →
 rdOK ws nx ∧
 rdOK ws (nmR ws en (mR nx pa er)).nx ∧
 (0 : Nat) < (ByteArray.mk #[(61 : UInt8)]).size ∧
 rdOK ws (exR ws en (ByteArray.mk #[(61 : UInt8)]) (mR (nmR ws en (mR nx pa er)).nx (nmR ws en (mR nx pa er)).pa (nmR ws en (mR nx pa er)).er)).nx ∧
 dpOK ws
 (mR (exR ws en (ByteArray.mk #[(61 : UInt8)]) (mR (nmR ws en (mR nx pa er)).nx (nmR ws en (mR nx pa er)).pa (nmR ws en (mR nx pa er)).er)).nx
 (exR ws en (ByteArray.mk #[(61 : UInt8)]) (mR (nmR ws en (mR nx pa er)).nx (nmR ws en (mR nx pa er)).pa (nmR ws en (mR nx pa er)).er)).pa
 (exR ws en (ByteArray.mk #[(61 : UInt8)]) (mR (nmR ws en (mR nx pa er)).nx (nmR ws en (mR nx pa er)).pa (nmR ws en (mR nx pa er)).er)).er)
 (0 : Int) ∧
 left ws
 (mR (exR ws en (ByteArray.mk #[(61 : UInt8)]) (mR (nmR ws en (mR nx pa er)).nx (nmR ws en (mR nx pa er)).pa (nmR ws en (mR nx pa er)).er)).nx
 (exR ws en (ByteArray.mk #[(61 : UInt8)]) (mR (nmR ws en (mR nx pa er)).nx (nmR ws en (mR nx pa er)).pa (nmR ws en (mR nx pa er)).er)).pa
 (exR ws en (ByteArray.mk #[(61 : UInt8)]) (mR (nmR ws en (mR nx pa er)).nx (nmR ws en (mR nx pa er)).pa (nmR ws en (mR nx pa er)).er)).er) <
 (1000001 : Nat) ∧
 rdOK ws
 (smX en ws (0 : Int)
 (mR
 (exR ws en (ByteArray.mk #[(61 : UInt8)]) (mR (nmR ws en (mR nx pa er)).nx (nmR ws en (mR nx pa er)).pa (nmR ws en (mR nx pa er)).er)).nx
 (exR ws en (ByteArray.mk #[(61 : UInt8)]) (mR (nmR ws en (mR nx pa er)).nx (nmR ws en (mR nx pa er)).pa (nmR ws en (mR nx pa er)).er)).pa
 (exR ws en (ByteArray.mk #[(61 : UInt8)])
 (mR (nmR ws en (mR nx pa er)).nx (nmR ws en (mR nx pa er)).pa (nmR ws en (mR nx pa er)).er)).er)).snd.nx ∧
 (0 : Nat) < (ByteArray.mk #[(59 : UInt8)]).size ∧
 (1 : Int) = (1 : Int) ∧
 Value.string (nmS ws (mR nx pa er)) = Value.string (nmS ws (mR nx pa er)) ∧
 Value.string ByteArray.empty = Value.string ByteArray.empty ∧
 (smX en ws (0 : Int)
 (mR
 (exR ws en (ByteArray.mk #[(61 : UInt8)])
 (mR (nmR ws en (mR nx pa er)).nx (nmR ws en (mR nx pa er)).pa (nmR ws en (mR nx pa er)).er)).nx
 (exR ws en (ByteArray.mk #[(61 : UInt8)])
 (mR (nmR ws en (mR nx pa er)).nx (nmR ws en (mR nx pa er)).pa (nmR ws en (mR nx pa er)).er)).pa
 (exR ws en (ByteArray.mk #[(61 : UInt8)])
 (mR (nmR ws en (mR nx pa er)).nx (nmR ws en (mR nx pa er)).pa (nmR ws en (mR nx pa er)).er)).er)).fst.k =
 (asE ws en (mR nx pa er)).fst.k ∧
 (smX en ws (0 : Int)
 (mR
 (exR ws en (ByteArray.mk #[(61 : UInt8)])
 (mR (nmR ws en (mR nx pa er)).nx (nmR ws en (mR nx pa er)).pa (nmR ws en (mR nx pa er)).er)).nx
 (exR ws en (ByteArray.mk #[(61 : UInt8)])
 (mR (nmR ws en (mR nx pa er)).nx (nmR ws en (mR nx pa er)).pa (nmR ws en (mR nx pa er)).er)).pa
 (exR ws en (ByteArray.mk #[(61 : UInt8)])
 (mR (nmR ws en (mR nx pa er)).nx (nmR ws en (mR nx pa er)).pa (nmR ws en (mR nx pa er)).er)).er)).fst.n =
 (asE ws en (mR nx pa er)).fst.n ∧
 Value.string
 (smX en ws (0 : Int)
 (mR
 (exR ws en (ByteArray.mk #[(61 : UInt8)])
 (mR (nmR ws en (mR nx pa er)).nx (nmR ws en (mR nx pa er)).pa (nmR ws en (mR nx pa er)).er)).nx
 (exR ws en (ByteArray.mk #[(61 : UInt8)])
 (mR (nmR ws en (mR nx pa er)).nx (nmR ws en (mR nx pa er)).pa (nmR ws en (mR nx pa er)).er)).pa
 (exR ws en (ByteArray.mk #[(61 : UInt8)])
 (mR (nmR ws en (mR nx pa er)).nx (nmR ws en (mR nx pa er)).pa (nmR ws en (mR nx pa er)).er)).er)).fst.s =
 Value.string (asE ws en (mR nx pa er)).fst.s ∧
 (smX en ws (0 : Int)
 (mR
 (exR ws en (ByteArray.mk #[(61 : UInt8)])
 (mR (nmR ws en (mR nx pa er)).nx (nmR ws en (mR nx pa er)).pa (nmR ws en (mR nx pa er)).er)).nx
 (exR ws en (ByteArray.mk #[(61 : UInt8)])
 (mR (nmR ws en (mR nx pa er)).nx (nmR ws en (mR nx pa er)).pa (nmR ws en (mR nx pa er)).er)).pa
 (exR ws en (ByteArray.mk #[(61 : UInt8)])
 (mR (nmR ws en (mR nx pa er)).nx (nmR ws en (mR nx pa er)).pa (nmR ws en (mR nx pa er)).er)).er)).fst.d.len =
 (asE ws en (mR nx pa er)).fst.d.len ∧
 (0 : Int) = (0 : Int) ∧
 (0 : Int) = (0 : Int) ∧
 (0 : Int) = (0 : Int) ∧
 Value.string ByteArray.empty = Value.string ByteArray.empty ∧
 (0 : Int) = (0 : Int) ∧
 (0 : Int) = (0 : Int) ∧
 Value.string ByteArray.empty = Value.string ByteArray.empty ∧
 ws.rows = ws.rows ∧
 (exR ws en (ByteArray.mk #[(59 : UInt8)])
 (mR
 (smX en ws (0 : Int)
 (mR
 (exR ws en (ByteArray.mk #[(61 : UInt8)])
 (mR (nmR ws en (mR nx pa er)).nx (nmR ws en (mR nx pa er)).pa
 (nmR ws en (mR nx pa er)).er)).nx
 (exR ws en (ByteArray.mk #[(61 : UInt8)])
 (mR (nmR ws en (mR nx pa er)).nx (nmR ws en (mR nx pa er)).pa
 (nmR ws en (mR nx pa er)).er)).pa
 (exR ws en (ByteArray.mk #[(61 : UInt8)])
 (mR (nmR ws en (mR nx pa er)).nx (nmR ws en (mR nx pa er)).pa
 (nmR ws en (mR nx pa er)).er)).er)).snd.nx
 (smX en ws (0 : Int)
 (mR
 (exR ws en (ByteArray.mk #[(61 : UInt8)])
 (mR (nmR ws en (mR nx pa er)).nx (nmR ws en (mR nx pa er)).pa
 (nmR ws en (mR nx pa er)).er)).nx
 (exR ws en (ByteArray.mk #[(61 : UInt8)])
 (mR (nmR ws en (mR nx pa er)).nx (nmR ws en (mR nx pa er)).pa
 (nmR ws en (mR nx pa er)).er)).pa
 (exR ws en (ByteArray.mk #[(61 : UInt8)])
 (mR (nmR ws en (mR nx pa er)).nx (nmR ws en (mR nx pa er)).pa
 (nmR ws en (mR nx pa er)).er)).er)).snd.pa
 (smX en ws (0 : Int)
 (mR
 (exR ws en (ByteArray.mk #[(61 : UInt8)])
 (mR (nmR ws en (mR nx pa er)).nx (nmR ws en (mR nx pa er)).pa
 (nmR ws en (mR nx pa er)).er)).nx
 (exR ws en (ByteArray.mk #[(61 : UInt8)])
 (mR (nmR ws en (mR nx pa er)).nx (nmR ws en (mR nx pa er)).pa
 (nmR ws en (mR nx pa er)).er)).pa
 (exR ws en (ByteArray.mk #[(61 : UInt8)])
 (mR (nmR ws en (mR nx pa er)).nx (nmR ws en (mR nx pa er)).pa
 (nmR ws en (mR nx pa er)).er)).er)).snd.er)).nx =
 (asR ws en (mR nx pa er)).nx ∧
 en = en ∧
 (exR ws en (ByteArray.mk #[(59 : UInt8)])
 (mR
 (smX en ws (0 : Int)
 (mR
 (exR ws en (ByteArray.mk #[(61 : UInt8)])
 (mR (nmR ws en (mR nx pa er)).nx (nmR ws en (mR nx pa er)).pa
 (nmR ws en (mR nx pa er)).er)).nx
 (exR ws en (ByteArray.mk #[(61 : UInt8)])
 (mR (nmR ws en (mR nx pa er)).nx (nmR ws en (mR nx pa er)).pa
 (nmR ws en (mR nx pa er)).er)).pa
 (exR ws en (ByteArray.mk #[(61 : UInt8)])
 (mR (nmR ws en (mR nx pa er)).nx (nmR ws en (mR nx pa er)).pa
 (nmR ws en (mR nx pa er)).er)).er)).snd.nx
 (smX en ws (0 : Int)
 (mR
 (exR ws en (ByteArray.mk #[(61 : UInt8)])
 (mR (nmR ws en (mR nx pa er)).nx (nmR ws en (mR nx pa er)).pa
 (nmR ws en (mR nx pa er)).er)).nx
 (exR ws en (ByteArray.mk #[(61 : UInt8)])
 (mR (nmR ws en (mR nx pa er)).nx (nmR ws en (mR nx pa er)).pa
 (nmR ws en (mR nx pa er)).er)).pa
 (exR ws en (ByteArray.mk #[(61 : UInt8)])
 (mR (nmR ws en (mR nx pa er)).nx (nmR ws en (mR nx pa er)).pa
 (nmR ws en (mR nx pa er)).er)).er)).snd.pa
 (smX en ws (0 : Int)
 (mR
 (exR ws en (ByteArray.mk #[(61 : UInt8)])
 (mR (nmR ws en (mR nx pa er)).nx (nmR ws en (mR nx pa er)).pa
 (nmR ws en (mR nx pa er)).er)).nx
 (exR ws en (ByteArray.mk #[(61 : UInt8)])
 (mR (nmR ws en (mR nx pa er)).nx (nmR ws en (mR nx pa er)).pa
 (nmR ws en (mR nx pa er)).er)).pa
 (exR ws en (ByteArray.mk #[(61 : UInt8)])
 (mR (nmR ws en (mR nx pa er)).nx (nmR ws en (mR nx pa er)).pa
 (nmR ws en (mR nx pa er)).er)).er)).snd.er)).pa =
 (asR ws en (mR nx pa er)).pa ∧
 (exR ws en (ByteArray.mk #[(59 : UInt8)])
 (mR
 (smX en ws (0 : Int)
 (mR
 (exR ws en (ByteArray.mk #[(61 : UInt8)])
 (mR (nmR ws en (mR nx pa er)).nx (nmR ws en (mR nx pa er)).pa
 (nmR ws en (mR nx pa er)).er)).nx
 (exR ws en (ByteArray.mk #[(61 : UInt8)])
 (mR (nmR ws en (mR nx pa er)).nx (nmR ws en (mR nx pa er)).pa
 (nmR ws en (mR nx pa er)).er)).pa
 (exR ws en (ByteArray.mk #[(61 : UInt8)])
 (mR (nmR ws en (mR nx pa er)).nx (nmR ws en (mR nx pa er)).pa
 (nmR ws en (mR nx pa er)).er)).er)).snd.nx
 (smX en ws (0 : Int)
 (mR
 (exR ws en (ByteArray.mk #[(61 : UInt8)])
 (mR (nmR ws en (mR nx pa er)).nx (nmR ws en (mR nx pa er)).pa
 (nmR ws en (mR nx pa er)).er)).nx
 (exR ws en (ByteArray.mk #[(61 : UInt8)])
 (mR (nmR ws en (mR nx pa er)).nx (nmR ws en (mR nx pa er)).pa
 (nmR ws en (mR nx pa er)).er)).pa
 (exR ws en (ByteArray.mk #[(61 : UInt8)])
 (mR (nmR ws en (mR nx pa er)).nx (nmR ws en (mR nx pa er)).pa
 (nmR ws en (mR nx pa er)).er)).er)).snd.pa
 (smX en ws (0 : Int)
 (mR
 (exR ws en (ByteArray.mk #[(61 : UInt8)])
 (mR (nmR ws en (mR nx pa er)).nx (nmR ws en (mR nx pa er)).pa
 (nmR ws en (mR nx pa er)).er)).nx
 (exR ws en (ByteArray.mk #[(61 : UInt8)])
 (mR (nmR ws en (mR nx pa er)).nx (nmR ws en (mR nx pa er)).pa
 (nmR ws en (mR nx pa er)).er)).pa
 (exR ws en (ByteArray.mk #[(61 : UInt8)])
 (mR (nmR ws en (mR nx pa er)).nx (nmR ws en (mR nx pa er)).pa
 (nmR ws en (mR nx pa er)).er)).er)).snd.er)).er =
 (asR ws en (mR nx pa er)).er ∧
 (smX en ws (0 : Int)
 (mR
 (exR ws en (ByteArray.mk #[(61 : UInt8)])
 (mR (nmR ws en (mR nx pa er)).nx (nmR ws en (mR nx pa er)).pa
 (nmR ws en (mR nx pa er)).er)).nx
 (exR ws en (ByteArray.mk #[(61 : UInt8)])
 (mR (nmR ws en (mR nx pa er)).nx (nmR ws en (mR nx pa er)).pa
 (nmR ws en (mR nx pa er)).er)).pa
 (exR ws en (ByteArray.mk #[(61 : UInt8)])
 (mR (nmR ws en (mR nx pa er)).nx (nmR ws en (mR nx pa er)).pa
 (nmR ws en (mR nx pa er)).er)).er)).fst.d.rows =
 (asE ws en (mR nx pa er)).fst.d.rows) (by kernel_rfl) ?_
    intro h
    have a := (nm_up en (r := mR nx pa er) h).1
    have b := (ex_up en (t := eqB) a (by decide)).1
    have c := ((smX_up en ws 0).up _ b).2.1
    simp only [etR]
    (repeat' (with_reducible apply And.intro)) <;> first | with_reducible rfl | exact True.intro | assumption | exact (lf_lt (by assumption)).1 | exact (lf_lt (by assumption)).2 | decide | rfl
  · trivial
noncomputable def assS : List Dat → Option (Eff × List Seg) := fun ds => match ds with
  | [.d ws, .i nx, .i en, .i pa, .i er] => some ({ val := .one (.agg [.c (.int .i64 (.sym 6)), .c (.raw (.string (ByteArray.empty))), .c (.raw (.string (ByteArray.empty))), .c (.int .i64 (.sym 0)), .c (.int .i64 (.sym 0)), .c (.raw (.string ByteArray.empty)), .c .nils, .c (.int .i64 (.sym (atC ws en (mR nx pa er)).op)), .c (.int .i64 (.sym ((atC ws en (mR nx pa er)).l).k)), .c (.int .i64 (.sym ((atC ws en (mR nx pa er)).l).n)), .c (.raw (.string ((atC ws en (mR nx pa er)).l).s)), .c (.osl 90 0 (.lit 0) (.sym ((atC ws en (mR nx pa er)).l).d.len)), .c (.int .i64 (.sym ((atC ws en (mR nx pa er)).r).k)), .c (.int .i64 (.sym ((atC ws en (mR nx pa er)).r).n)), .c (.raw (.string ((atC ws en (mR nx pa er)).r).s)), .c (.osl 90 1 (.lit 0) (.sym ((atC ws en (mR nx pa er)).r).d.len)), .c .nils, .c .nils, .c .nils]), vc := [rdOK ws nx], nw := [(0, .orow 90 (atC ws en (mR nx pa er)).l.d), (1, .orow 90 (atC ws en (mR nx pa er)).r.d)] }, [.c (.rows 115 ws), .c (.int .i64 (.sym ((atR ws en (mR nx pa er)).nx))), .c (.int .i64 (.sym en)), .c (.int .i64 (.sym ((atR ws en (mR nx pa er)).pa))), .c (.int .i64 (.sym ((atR ws en (mR nx pa er)).er)))])
  | _ => none
noncomputable def assC : Con := conM 64 [.c (.rows 115), .c (.int .i64), .c (.int .i64), .c (.int .i64), .c (.int .i64)] [] assS
theorem ass_ok : ConOK Try.prog 89 assC := by
  refine fn_obM tt_ok mixed Try.func89 rfl (fun _ _ => by kernel_rfl) (A := fun ds => ⟨fun _ => Cons.of [(97, cndC), (71, expC)], fun _ => none, fun _ => none⟩) (fun _ _ => (cons_cons cnd_ok (cons_cons exp_ok cons_nil))) (by kernel_rfl) ?_
  intro ds
  unfold assS
  split
  · rename_i ws nx en pa er
    refine kmp (q := rdOK ws nx →
 rdOK ws nx ∧
 (0 : Nat) < (ByteArray.mk #[(97 : UInt8), (115 : UInt8), (115 : UInt8), (101 : UInt8), (114 : UInt8), (116 : UInt8)]).size ∧
 rdOK ws (exR ws en (ByteArray.mk #[(97 : UInt8), (115 : UInt8), (115 : UInt8), (101 : UInt8), (114 : UInt8), (116 : UInt8)]) (mR nx pa er)).nx ∧
 rdOK ws
 (cdR ws en
 (mR (exR ws en (ByteArray.mk #[(97 : UInt8), (115 : UInt8), (115 : UInt8), (101 : UInt8), (114 : UInt8), (116 : UInt8)]) (mR nx pa er)).nx
 (exR ws en (ByteArray.mk #[(97 : UInt8), (115 : UInt8), (115 : UInt8), (101 : UInt8), (114 : UInt8), (116 : UInt8)]) (mR nx pa er)).pa
 (exR ws en (ByteArray.mk #[(97 : UInt8), (115 : UInt8), (115 : UInt8), (101 : UInt8), (114 : UInt8), (116 : UInt8)]) (mR nx pa er)).er)).nx ∧
 (0 : Nat) < (ByteArray.mk #[(59 : UInt8)]).size ∧
 (6 : Int) = (6 : Int) ∧
 Value.string ByteArray.empty = Value.string ByteArray.empty ∧
 Value.string ByteArray.empty = Value.string ByteArray.empty ∧
 (0 : Int) = (0 : Int) ∧
 (0 : Int) = (0 : Int) ∧
 Value.string ByteArray.empty = Value.string ByteArray.empty ∧
 (cdC ws en
 (mR
 (exR ws en (ByteArray.mk #[(97 : UInt8), (115 : UInt8), (115 : UInt8), (101 : UInt8), (114 : UInt8), (116 : UInt8)])
 (mR nx pa er)).nx
 (exR ws en (ByteArray.mk #[(97 : UInt8), (115 : UInt8), (115 : UInt8), (101 : UInt8), (114 : UInt8), (116 : UInt8)])
 (mR nx pa er)).pa
 (exR ws en (ByteArray.mk #[(97 : UInt8), (115 : UInt8), (115 : UInt8), (101 : UInt8), (114 : UInt8), (116 : UInt8)])
 (mR nx pa er)).er)).op =
 (atC ws en (mR nx pa er)).op ∧
 (cdC ws en
 (mR
 (exR ws en (ByteArray.mk #[(97 : UInt8), (115 : UInt8), (115 : UInt8), (101 : UInt8), (114 : UInt8), (116 : UInt8)])
 (mR nx pa er)).nx
 (exR ws en (ByteArray.mk #[(97 : UInt8), (115 : UInt8), (115 : UInt8), (101 : UInt8), (114 : UInt8), (116 : UInt8)])
 (mR nx pa er)).pa
 (exR ws en (ByteArray.mk #[(97 : UInt8), (115 : UInt8), (115 : UInt8), (101 : UInt8), (114 : UInt8), (116 : UInt8)])
 (mR nx pa er)).er)).l.k =
 (atC ws en (mR nx pa er)).l.k ∧
 (cdC ws en
 (mR
 (exR ws en (ByteArray.mk #[(97 : UInt8), (115 : UInt8), (115 : UInt8), (101 : UInt8), (114 : UInt8), (116 : UInt8)])
 (mR nx pa er)).nx
 (exR ws en (ByteArray.mk #[(97 : UInt8), (115 : UInt8), (115 : UInt8), (101 : UInt8), (114 : UInt8), (116 : UInt8)])
 (mR nx pa er)).pa
 (exR ws en (ByteArray.mk #[(97 : UInt8), (115 : UInt8), (115 : UInt8), (101 : UInt8), (114 : UInt8), (116 : UInt8)])
 (mR nx pa er)).er)).l.n =
 (atC ws en (mR nx pa er)).l.n ∧
 Value.string
 (cdC ws en
 (mR
 (exR ws en (ByteArray.mk #[(97 : UInt8), (115 : UInt8), (115 : UInt8), (101 : UInt8), (114 : UInt8), (116 : UInt8)])
 (mR nx pa er)).nx
 (exR ws en (ByteArray.mk #[(97 : UInt8), (115 : UInt8), (115 : UInt8), (101 : UInt8), (114 : UInt8), (116 : UInt8)])
 (mR nx pa er)).pa
 (exR ws en (ByteArray.mk #[(97 : UInt8), (115 : UInt8), (115 : UInt8), (101 : UInt8), (114 : UInt8), (116 : UInt8)])
 (mR nx pa er)).er)).l.s =
 Value.string (atC ws en (mR nx pa er)).l.s ∧
 (cdC ws en
 (mR
 (exR ws en (ByteArray.mk #[(97 : UInt8), (115 : UInt8), (115 : UInt8), (101 : UInt8), (114 : UInt8), (116 : UInt8)])
 (mR nx pa er)).nx
 (exR ws en (ByteArray.mk #[(97 : UInt8), (115 : UInt8), (115 : UInt8), (101 : UInt8), (114 : UInt8), (116 : UInt8)])
 (mR nx pa er)).pa
 (exR ws en (ByteArray.mk #[(97 : UInt8), (115 : UInt8), (115 : UInt8), (101 : UInt8), (114 : UInt8), (116 : UInt8)])
 (mR nx pa er)).er)).l.d.len =
 (atC ws en (mR nx pa er)).l.d.len ∧
 (cdC ws en
 (mR
 (exR ws en (ByteArray.mk #[(97 : UInt8), (115 : UInt8), (115 : UInt8), (101 : UInt8), (114 : UInt8), (116 : UInt8)])
 (mR nx pa er)).nx
 (exR ws en (ByteArray.mk #[(97 : UInt8), (115 : UInt8), (115 : UInt8), (101 : UInt8), (114 : UInt8), (116 : UInt8)])
 (mR nx pa er)).pa
 (exR ws en (ByteArray.mk #[(97 : UInt8), (115 : UInt8), (115 : UInt8), (101 : UInt8), (114 : UInt8), (116 : UInt8)])
 (mR nx pa er)).er)).r.k =
 (atC ws en (mR nx pa er)).r.k ∧
 (cdC ws en
 (mR
 (exR ws en
 (ByteArray.mk #[(97 : UInt8), (115 : UInt8), (115 : UInt8), (101 : UInt8), (114 : UInt8), (116 : UInt8)])
 (mR nx pa er)).nx
 (exR ws en
 (ByteArray.mk #[(97 : UInt8), (115 : UInt8), (115 : UInt8), (101 : UInt8), (114 : UInt8), (116 : UInt8)])
 (mR nx pa er)).pa
 (exR ws en
 (ByteArray.mk #[(97 : UInt8), (115 : UInt8), (115 : UInt8), (101 : UInt8), (114 : UInt8), (116 : UInt8)])
 (mR nx pa er)).er)).r.n =
 (atC ws en (mR nx pa er)).r.n ∧
 Value.string
 (cdC ws en
 (mR
 (exR ws en
 (ByteArray.mk #[(97 : UInt8), (115 : UInt8), (115 : UInt8), (101 : UInt8), (114 : UInt8), (116 : UInt8)])
 (mR nx pa er)).nx
 (exR ws en
 (ByteArray.mk #[(97 : UInt8), (115 : UInt8), (115 : UInt8), (101 : UInt8), (114 : UInt8), (116 : UInt8)])
 (mR nx pa er)).pa
 (exR ws en
 (ByteArray.mk #[(97 : UInt8), (115 : UInt8), (115 : UInt8), (101 : UInt8), (114 : UInt8), (116 : UInt8)])
 (mR nx pa er)).er)).r.s =
 Value.string (atC ws en (mR nx pa er)).r.s ∧
 (cdC ws en
 (mR
 (exR ws en
 (ByteArray.mk #[(97 : UInt8), (115 : UInt8), (115 : UInt8), (101 : UInt8), (114 : UInt8), (116 : UInt8)])
 (mR nx pa er)).nx
 (exR ws en
 (ByteArray.mk #[(97 : UInt8), (115 : UInt8), (115 : UInt8), (101 : UInt8), (114 : UInt8), (116 : UInt8)])
 (mR nx pa er)).pa
 (exR ws en
 (ByteArray.mk #[(97 : UInt8), (115 : UInt8), (115 : UInt8), (101 : UInt8), (114 : UInt8), (116 : UInt8)])
 (mR nx pa er)).er)).r.d.len =
 (atC ws en (mR nx pa er)).r.d.len ∧
 ws.rows = ws.rows ∧
 (exR ws en (ByteArray.mk #[(59 : UInt8)])
 (mR
 (cdR ws en
 (mR
 (exR ws en
 (ByteArray.mk #[(97 : UInt8), (115 : UInt8), (115 : UInt8), (101 : UInt8), (114 : UInt8), (116 : UInt8)])
 (mR nx pa er)).nx
 (exR ws en
 (ByteArray.mk #[(97 : UInt8), (115 : UInt8), (115 : UInt8), (101 : UInt8), (114 : UInt8), (116 : UInt8)])
 (mR nx pa er)).pa
 (exR ws en
 (ByteArray.mk #[(97 : UInt8), (115 : UInt8), (115 : UInt8), (101 : UInt8), (114 : UInt8), (116 : UInt8)])
 (mR nx pa er)).er)).nx
 (cdR ws en
 (mR
 (exR ws en
 (ByteArray.mk #[(97 : UInt8), (115 : UInt8), (115 : UInt8), (101 : UInt8), (114 : UInt8), (116 : UInt8)])
 (mR nx pa er)).nx
 (exR ws en
 (ByteArray.mk #[(97 : UInt8), (115 : UInt8), (115 : UInt8), (101 : UInt8), (114 : UInt8), (116 : UInt8)])
 (mR nx pa er)).pa
 (exR ws en
 (ByteArray.mk #[(97 : UInt8), (115 : UInt8), (115 : UInt8), (101 : UInt8), (114 : UInt8), (116 : UInt8)])
 (mR nx pa er)).er)).pa
 (cdR ws en
 (mR
 (exR ws en
 (ByteArray.mk #[(97 : UInt8), (115 : UInt8), (115 : UInt8), (101 : UInt8), (114 : UInt8), (116 : UInt8)])
 (mR nx pa er)).nx
 (exR ws en
 (ByteArray.mk #[(97 : UInt8), (115 : UInt8), (115 : UInt8), (101 : UInt8), (114 : UInt8), (116 : UInt8)])
 (mR nx pa er)).pa
 (exR ws en
 (ByteArray.mk #[(97 : UInt8), (115 : UInt8), (115 : UInt8), (101 : UInt8), (114 : UInt8), (116 : UInt8)])
 (mR nx pa er)).er)).er)).nx =
 (atR ws en (mR nx pa er)).nx ∧
 en = en ∧
 (exR ws en (ByteArray.mk #[(59 : UInt8)])
 (mR
 (cdR ws en
 (mR
 (exR ws en
 (ByteArray.mk #[(97 : UInt8), (115 : UInt8), (115 : UInt8), (101 : UInt8), (114 : UInt8),
 (116 : UInt8)])
 (mR nx pa er)).nx
 (exR ws en
 (ByteArray.mk #[(97 : UInt8), (115 : UInt8), (115 : UInt8), (101 : UInt8), (114 : UInt8),
 (116 : UInt8)])
 (mR nx pa er)).pa
 (exR ws en
 (ByteArray.mk #[(97 : UInt8), (115 : UInt8), (115 : UInt8), (101 : UInt8), (114 : UInt8),
 (116 : UInt8)])
 (mR nx pa er)).er)).nx
 (cdR ws en
 (mR
 (exR ws en
 (ByteArray.mk #[(97 : UInt8), (115 : UInt8), (115 : UInt8), (101 : UInt8), (114 : UInt8),
 (116 : UInt8)])
 (mR nx pa er)).nx
 (exR ws en
 (ByteArray.mk #[(97 : UInt8), (115 : UInt8), (115 : UInt8), (101 : UInt8), (114 : UInt8),
 (116 : UInt8)])
 (mR nx pa er)).pa
 (exR ws en
 (ByteArray.mk #[(97 : UInt8), (115 : UInt8), (115 : UInt8), (101 : UInt8), (114 : UInt8),
 (116 : UInt8)])
 (mR nx pa er)).er)).pa
 (cdR ws en
 (mR
 (exR ws en
 (ByteArray.mk #[(97 : UInt8), (115 : UInt8), (115 : UInt8), (101 : UInt8), (114 : UInt8),
 (116 : UInt8)])
 (mR nx pa er)).nx
 (exR ws en
 (ByteArray.mk #[(97 : UInt8), (115 : UInt8), (115 : UInt8), (101 : UInt8), (114 : UInt8),
 (116 : UInt8)])
 (mR nx pa er)).pa
 (exR ws en
 (ByteArray.mk #[(97 : UInt8), (115 : UInt8), (115 : UInt8), (101 : UInt8), (114 : UInt8),
 (116 : UInt8)])
 (mR nx pa er)).er)).er)).pa =
 (atR ws en (mR nx pa er)).pa ∧
 (exR ws en (ByteArray.mk #[(59 : UInt8)])
 (mR
 (cdR ws en
 (mR
 (exR ws en
 (ByteArray.mk #[(97 : UInt8), (115 : UInt8), (115 : UInt8), (101 : UInt8), (114 : UInt8),
 (116 : UInt8)])
 (mR nx pa er)).nx
 (exR ws en
 (ByteArray.mk #[(97 : UInt8), (115 : UInt8), (115 : UInt8), (101 : UInt8), (114 : UInt8),
 (116 : UInt8)])
 (mR nx pa er)).pa
 (exR ws en
 (ByteArray.mk #[(97 : UInt8), (115 : UInt8), (115 : UInt8), (101 : UInt8), (114 : UInt8),
 (116 : UInt8)])
 (mR nx pa er)).er)).nx
 (cdR ws en
 (mR
 (exR ws en
 (ByteArray.mk #[(97 : UInt8), (115 : UInt8), (115 : UInt8), (101 : UInt8), (114 : UInt8),
 (116 : UInt8)])
 (mR nx pa er)).nx
 (exR ws en
 (ByteArray.mk #[(97 : UInt8), (115 : UInt8), (115 : UInt8), (101 : UInt8), (114 : UInt8),
 (116 : UInt8)])
 (mR nx pa er)).pa
 (exR ws en
 (ByteArray.mk #[(97 : UInt8), (115 : UInt8), (115 : UInt8), (101 : UInt8), (114 : UInt8),
 (116 : UInt8)])
 (mR nx pa er)).er)).pa
 (cdR ws en
 (mR
 (exR ws en
 (ByteArray.mk #[(97 : UInt8), (115 : UInt8), (115 : UInt8), (101 : UInt8), (114 : UInt8),
 (116 : UInt8)])
 (mR nx pa er)).nx
 (exR ws en
 (ByteArray.mk #[(97 : UInt8), (115 : UInt8), (115 : UInt8), (101 : UInt8), (114 : UInt8),
 (116 : UInt8)])
 (mR nx pa er)).pa
 (exR ws en
 (ByteArray.mk #[(97 : UInt8), (115 : UInt8), (115 : UInt8), (101 : UInt8), (114 : UInt8),
 (116 : UInt8)])
 (mR nx pa er)).er)).er)).er =
 (atR ws en (mR nx pa er)).er ∧
 (cdC ws en
 (mR
 (exR ws en
 (ByteArray.mk #[(97 : UInt8), (115 : UInt8), (115 : UInt8), (101 : UInt8), (114 : UInt8),
 (116 : UInt8)])
 (mR nx pa er)).nx
 (exR ws en
 (ByteArray.mk #[(97 : UInt8), (115 : UInt8), (115 : UInt8), (101 : UInt8), (114 : UInt8),
 (116 : UInt8)])
 (mR nx pa er)).pa
 (exR ws en
 (ByteArray.mk #[(97 : UInt8), (115 : UInt8), (115 : UInt8), (101 : UInt8), (114 : UInt8),
 (116 : UInt8)])
 (mR nx pa er)).er)).l.d.rows =
 (atC ws en (mR nx pa er)).l.d.rows ∧
 (cdC ws en
 (mR
 (exR ws en
 (ByteArray.mk #[(97 : UInt8), (115 : UInt8), (115 : UInt8), (101 : UInt8), (114 : UInt8),
 (116 : UInt8)])
 (mR nx pa er)).nx
 (exR ws en
 (ByteArray.mk #[(97 : UInt8), (115 : UInt8), (115 : UInt8), (101 : UInt8), (114 : UInt8),
 (116 : UInt8)])
 (mR nx pa er)).pa
 (exR ws en
 (ByteArray.mk #[(97 : UInt8), (115 : UInt8), (115 : UInt8), (101 : UInt8), (114 : UInt8),
 (116 : UInt8)])
 (mR nx pa er)).er)).r.d.rows =
 (atC ws en (mR nx pa er)).r.d.rows) (by kernel_rfl) ?_
    intro h
    have a1 := (ex_up en (t := kwA) (r := mR nx pa er) h (by decide)).1
    obtain ⟨_, _, _, _, a2, _⟩ := cd_up en a1
    simp only [etR]
    (repeat' (with_reducible apply And.intro)) <;> first | with_reducible rfl | exact True.intro | assumption | exact (lf_lt (by assumption)).1 | exact (lf_lt (by assumption)).2 | decide | rfl
  · trivial
noncomputable def inpS : List Dat → Option (Eff × List Seg) := fun ds => match ds with
  | [.d ws, .i nx, .i en, .i pa, .i er] => some ({ val := .one (.agg [.c (.int .i64 (.sym 7)), .c (.raw (.string (nmS ws (exR ws en kwI (mR nx pa er))))), .c (.raw (.string (ByteArray.empty))), .c (.int .i64 (.sym 0)), .c (.int .i64 (.sym 0)), .c (.raw (.string ByteArray.empty)), .c .nils, .c (.int .i64 (.sym 0)), .c (.int .i64 (.sym 0)), .c (.int .i64 (.sym 0)), .c (.raw (.string ByteArray.empty)), .c .nils, .c (.int .i64 (.sym 0)), .c (.int .i64 (.sym 0)), .c (.raw (.string ByteArray.empty)), .c .nils, .c .nils, .c .nils, .c .nils]), vc := [rdOK ws nx] }, [.c (.rows 115 ws), .c (.int .i64 (.sym ((inR ws en (mR nx pa er)).nx))), .c (.int .i64 (.sym en)), .c (.int .i64 (.sym ((inR ws en (mR nx pa er)).pa))), .c (.int .i64 (.sym ((inR ws en (mR nx pa er)).er)))])
  | _ => none
noncomputable def inpC : Con := conM 64 [.c (.rows 115), .c (.int .i64), .c (.int .i64), .c (.int .i64), .c (.int .i64)] [] inpS
theorem inp_ok : ConOK Try.prog 90 inpC := by
  refine fn_obM tt_ok mixed Try.func90 rfl (fun _ _ => by kernel_rfl) (A := fun ds => ⟨fun _ => Cons.of [(68, namC), (71, expC)], fun _ => none, fun _ => none⟩) (fun _ _ => (cons_cons nam_ok (cons_cons exp_ok cons_nil))) (by kernel_rfl) ?_
  intro ds
  unfold inpS
  split
  · rename_i ws nx en pa er
    refine kmp (q := rdOK ws nx →
 rdOK ws nx ∧
 (0 : Nat) < (ByteArray.mk #[(105 : UInt8), (110 : UInt8), (112 : UInt8), (117 : UInt8), (116 : UInt8)]).size ∧
 rdOK ws (exR ws en (ByteArray.mk #[(105 : UInt8), (110 : UInt8), (112 : UInt8), (117 : UInt8), (116 : UInt8)]) (mR nx pa er)).nx ∧
 rdOK ws
 (nmR ws en
 (mR (exR ws en (ByteArray.mk #[(105 : UInt8), (110 : UInt8), (112 : UInt8), (117 : UInt8), (116 : UInt8)]) (mR nx pa er)).nx
 (exR ws en (ByteArray.mk #[(105 : UInt8), (110 : UInt8), (112 : UInt8), (117 : UInt8), (116 : UInt8)]) (mR nx pa er)).pa
 (exR ws en (ByteArray.mk #[(105 : UInt8), (110 : UInt8), (112 : UInt8), (117 : UInt8), (116 : UInt8)]) (mR nx pa er)).er)).nx ∧
 (0 : Nat) < (ByteArray.mk #[(59 : UInt8)]).size ∧
 (7 : Int) = (7 : Int) ∧
 Value.string
 (nmS ws
 (mR (exR ws en (ByteArray.mk #[(105 : UInt8), (110 : UInt8), (112 : UInt8), (117 : UInt8), (116 : UInt8)]) (mR nx pa er)).nx
 (exR ws en (ByteArray.mk #[(105 : UInt8), (110 : UInt8), (112 : UInt8), (117 : UInt8), (116 : UInt8)]) (mR nx pa er)).pa
 (exR ws en (ByteArray.mk #[(105 : UInt8), (110 : UInt8), (112 : UInt8), (117 : UInt8), (116 : UInt8)]) (mR nx pa er)).er)) =
 Value.string (nmS ws (exR ws en kwI (mR nx pa er))) ∧
 Value.string ByteArray.empty = Value.string ByteArray.empty ∧
 (0 : Int) = (0 : Int) ∧
 (0 : Int) = (0 : Int) ∧
 Value.string ByteArray.empty = Value.string ByteArray.empty ∧
 (0 : Int) = (0 : Int) ∧
 (0 : Int) = (0 : Int) ∧
 (0 : Int) = (0 : Int) ∧
 Value.string ByteArray.empty = Value.string ByteArray.empty ∧
 (0 : Int) = (0 : Int) ∧
 (0 : Int) = (0 : Int) ∧
 Value.string ByteArray.empty = Value.string ByteArray.empty ∧
 ws.rows = ws.rows ∧
 (exR ws en (ByteArray.mk #[(59 : UInt8)])
 (mR
 (nmR ws en
 (mR
 (exR ws en (ByteArray.mk #[(105 : UInt8), (110 : UInt8), (112 : UInt8), (117 : UInt8), (116 : UInt8)])
 (mR nx pa er)).nx
 (exR ws en (ByteArray.mk #[(105 : UInt8), (110 : UInt8), (112 : UInt8), (117 : UInt8), (116 : UInt8)])
 (mR nx pa er)).pa
 (exR ws en (ByteArray.mk #[(105 : UInt8), (110 : UInt8), (112 : UInt8), (117 : UInt8), (116 : UInt8)])
 (mR nx pa er)).er)).nx
 (nmR ws en
 (mR
 (exR ws en (ByteArray.mk #[(105 : UInt8), (110 : UInt8), (112 : UInt8), (117 : UInt8), (116 : UInt8)])
 (mR nx pa er)).nx
 (exR ws en (ByteArray.mk #[(105 : UInt8), (110 : UInt8), (112 : UInt8), (117 : UInt8), (116 : UInt8)])
 (mR nx pa er)).pa
 (exR ws en (ByteArray.mk #[(105 : UInt8), (110 : UInt8), (112 : UInt8), (117 : UInt8), (116 : UInt8)])
 (mR nx pa er)).er)).pa
 (nmR ws en
 (mR
 (exR ws en (ByteArray.mk #[(105 : UInt8), (110 : UInt8), (112 : UInt8), (117 : UInt8), (116 : UInt8)])
 (mR nx pa er)).nx
 (exR ws en (ByteArray.mk #[(105 : UInt8), (110 : UInt8), (112 : UInt8), (117 : UInt8), (116 : UInt8)])
 (mR nx pa er)).pa
 (exR ws en (ByteArray.mk #[(105 : UInt8), (110 : UInt8), (112 : UInt8), (117 : UInt8), (116 : UInt8)])
 (mR nx pa er)).er)).er)).nx =
 (inR ws en (mR nx pa er)).nx ∧
 en = en ∧
 (exR ws en (ByteArray.mk #[(59 : UInt8)])
 (mR
 (nmR ws en
 (mR
 (exR ws en (ByteArray.mk #[(105 : UInt8), (110 : UInt8), (112 : UInt8), (117 : UInt8), (116 : UInt8)])
 (mR nx pa er)).nx
 (exR ws en (ByteArray.mk #[(105 : UInt8), (110 : UInt8), (112 : UInt8), (117 : UInt8), (116 : UInt8)])
 (mR nx pa er)).pa
 (exR ws en (ByteArray.mk #[(105 : UInt8), (110 : UInt8), (112 : UInt8), (117 : UInt8), (116 : UInt8)])
 (mR nx pa er)).er)).nx
 (nmR ws en
 (mR
 (exR ws en (ByteArray.mk #[(105 : UInt8), (110 : UInt8), (112 : UInt8), (117 : UInt8), (116 : UInt8)])
 (mR nx pa er)).nx
 (exR ws en (ByteArray.mk #[(105 : UInt8), (110 : UInt8), (112 : UInt8), (117 : UInt8), (116 : UInt8)])
 (mR nx pa er)).pa
 (exR ws en (ByteArray.mk #[(105 : UInt8), (110 : UInt8), (112 : UInt8), (117 : UInt8), (116 : UInt8)])
 (mR nx pa er)).er)).pa
 (nmR ws en
 (mR
 (exR ws en (ByteArray.mk #[(105 : UInt8), (110 : UInt8), (112 : UInt8), (117 : UInt8), (116 : UInt8)])
 (mR nx pa er)).nx
 (exR ws en (ByteArray.mk #[(105 : UInt8), (110 : UInt8), (112 : UInt8), (117 : UInt8), (116 : UInt8)])
 (mR nx pa er)).pa
 (exR ws en (ByteArray.mk #[(105 : UInt8), (110 : UInt8), (112 : UInt8), (117 : UInt8), (116 : UInt8)])
 (mR nx pa er)).er)).er)).pa =
 (inR ws en (mR nx pa er)).pa ∧
 (exR ws en (ByteArray.mk #[(59 : UInt8)])
 (mR
 (nmR ws en
 (mR
 (exR ws en (ByteArray.mk #[(105 : UInt8), (110 : UInt8), (112 : UInt8), (117 : UInt8), (116 : UInt8)])
 (mR nx pa er)).nx
 (exR ws en (ByteArray.mk #[(105 : UInt8), (110 : UInt8), (112 : UInt8), (117 : UInt8), (116 : UInt8)])
 (mR nx pa er)).pa
 (exR ws en (ByteArray.mk #[(105 : UInt8), (110 : UInt8), (112 : UInt8), (117 : UInt8), (116 : UInt8)])
 (mR nx pa er)).er)).nx
 (nmR ws en
 (mR
 (exR ws en (ByteArray.mk #[(105 : UInt8), (110 : UInt8), (112 : UInt8), (117 : UInt8), (116 : UInt8)])
 (mR nx pa er)).nx
 (exR ws en (ByteArray.mk #[(105 : UInt8), (110 : UInt8), (112 : UInt8), (117 : UInt8), (116 : UInt8)])
 (mR nx pa er)).pa
 (exR ws en (ByteArray.mk #[(105 : UInt8), (110 : UInt8), (112 : UInt8), (117 : UInt8), (116 : UInt8)])
 (mR nx pa er)).er)).pa
 (nmR ws en
 (mR
 (exR ws en (ByteArray.mk #[(105 : UInt8), (110 : UInt8), (112 : UInt8), (117 : UInt8), (116 : UInt8)])
 (mR nx pa er)).nx
 (exR ws en (ByteArray.mk #[(105 : UInt8), (110 : UInt8), (112 : UInt8), (117 : UInt8), (116 : UInt8)])
 (mR nx pa er)).pa
 (exR ws en (ByteArray.mk #[(105 : UInt8), (110 : UInt8), (112 : UInt8), (117 : UInt8), (116 : UInt8)])
 (mR nx pa er)).er)).er)).er =
 (inR ws en (mR nx pa er)).er) (by kernel_rfl) ?_
    intro h
    have a1 := (ex_up en (t := kwI) (r := mR nx pa er) h (by decide)).1
    have a2 := (nm_up en a1).1
    simp only [etR]
    (repeat' (with_reducible apply And.intro)) <;> first | with_reducible rfl | exact True.intro | assumption | exact (lf_lt (by assumption)).1 | exact (lf_lt (by assumption)).2 | decide | rfl
  · trivial
end Go.Proofs.Ytbhbjhejkamlnaa.Sx.Z

import Derived.Test.YtbhbjhejkamlnaaZ14
import Derived.Lib.Strings
import Derived.Test.YtbhbjhejkamlnaaProg
import Derived.WalkKit
import Derived.WalkLawsBesides
import Derived.WalkSpells
import Derived.Outline
import Derived.Lib.Hide
import Derived.Lib.Walk
import Derived.Lib.BufferWrite
import Derived.Lib.UnsafeStr
import Derived.Laws.MakeOwn
import Derived.Deep.DeepFit
namespace Go.Proofs.Ytbhbjhejkamlnaa.Sx.Z
open Go.RowKit
def eqB : ByteArray := ⟨#[61]⟩
def seB : ByteArray := ⟨#[59]⟩
def doB : ByteArray := ⟨#[46]⟩
def kwS : ByteArray := ⟨#[115, 101, 110, 100]⟩
def kwA : ByteArray := ⟨#[97, 115, 115, 101, 114, 116]⟩
def kwI : ByteArray := ⟨#[105, 110, 112, 117, 116]⟩
def asE (ws : D) (en : Int) (r : Rd) : Xp × Rd := smX en ws 0 (exR ws en eqB (nmR ws en r))
def asR (ws : D) (en : Int) (r : Rd) : Rd := exR ws en seB (asE ws en r).2
def snN (ws : D) (en : Int) (r : Rd) : Rd := exR ws en kwS r
def snT (ws : D) (en : Int) (r : Rd) : Rd := exR ws en doB (nmR ws en (snN ws en r))
def snE (ws : D) (en : Int) (r : Rd) : Xp × Rd := smX en ws 0 (exR ws en opB (nmR ws en (snT ws en r)))
def snR (ws : D) (en : Int) (r : Rd) : Rd := exR ws en seB (exR ws en clB (snE ws en r).2)
def atC (ws : D) (en : Int) (r : Rd) : Cd := cdC ws en (exR ws en kwA r)
def atR (ws : D) (en : Int) (r : Rd) : Rd := exR ws en seB (cdR ws en (exR ws en kwA r))
def inR (ws : D) (en : Int) (r : Rd) : Rd := exR ws en seB (nmR ws en (exR ws en kwI r))
noncomputable def asgS : List Dat -> Option (Eff × List Seg) := fun ds => match ds with
  | [.d ws, .i nx, .i en, .i pa, .i er] => some ({ val := .one (.agg [.c (.int .i64 (.sym 1)), .c (.raw (.string (nmS ws (mR nx pa er)))), .c (.raw (.string (ByteArray.empty))), .c (.int .i64 (.sym ((asE ws en (mR nx pa er)).1).k)), .c (.int .i64 (.sym ((asE ws en (mR nx pa er)).1).n)), .c (.raw (.string ((asE ws en (mR nx pa er)).1).s)), .c (.osl 90 0 (.lit 0) (.sym ((asE ws en (mR nx pa er)).1).d.len)), .c (.int .i64 (.sym 0)), .c (.int .i64 (.sym 0)), .c (.int .i64 (.sym 0)), .c (.raw (.string ByteArray.empty)), .c .nils, .c (.int .i64 (.sym 0)), .c (.int .i64 (.sym 0)), .c (.raw (.string ByteArray.empty)), .c .nils, .c .nils, .c .nils, .c .nils]), vc := [rdOK ws nx], nw := [(0, .orow 90 (asE ws en (mR nx pa er)).1.d)] }, [.c (.rows 115 ws), .c (.int .i64 (.sym ((asR ws en (mR nx pa er)).nx))), .c (.int .i64 (.sym en)), .c (.int .i64 (.sym ((asR ws en (mR nx pa er)).pa))), .c (.int .i64 (.sym ((asR ws en (mR nx pa er)).er)))])
  | _ => none
noncomputable def asgC : Con := conM 64 [.c (.rows 115), .c (.int .i64), .c (.int .i64), .c (.int .i64), .c (.int .i64)] [] asgS
theorem asg_ok : ConOK Try.prog 91 asgC := by
  refine fn_obM tt_ok mixed Try.func91 rfl (fun _ _ => by kernel_rfl) (A := fun ds => ⟨fun _ => Cons.of [(99, (partC smX 1000001)), (71, expC), (68, namC)], fun _ => none, fun _ => none⟩) (fun _ _ => (cons_cons smX_ok (cons_cons exp_ok (cons_cons nam_ok cons_nil)))) (by kernel_rfl) ?_
  intro ds
  unfold asgS
  split
  · rename_i ws nx en pa er
    refine kmp (q := rdOK ws nx -> rdOK ws nx /\ rdOK ws (nmR ws en (mR nx pa er)).nx /\ 0 < eqB.size /\ rdOK ws (exR ws en eqB (nmR ws en (mR nx pa er))).nx /\ dpOK ws (exR ws en eqB (nmR ws en (mR nx pa er))) (0 : Int) /\ left ws (exR ws en eqB (nmR ws en (mR nx pa er))) < 1000001 /\ rdOK ws (smX en ws (0 : Int) (exR ws en eqB (nmR ws en (mR nx pa er)))).snd.nx /\ 0 < seB.size /\ (1 : Int) = (1 : Int) /\ Value.string (nmS ws (mR nx pa er)) = Value.string (nmS ws (mR nx pa er)) /\ Value.string ByteArray.empty = Value.string ByteArray.empty /\ (smX en ws (0 : Int) (exR ws en eqB (nmR ws en (mR nx pa er)))).fst.k = (asE ws en (mR nx pa er)).fst.k /\ (smX en ws (0 : Int) (exR ws en eqB (nmR ws en (mR nx pa er)))).fst.n = (asE ws en (mR nx pa er)).fst.n /\ Value.string (smX en ws (0 : Int) (exR ws en eqB (nmR ws en (mR nx pa er)))).fst.s = Value.string (asE ws en (mR nx pa er)).fst.s /\ (smX en ws (0 : Int) (exR ws en eqB (nmR ws en (mR nx pa er)))).fst.d.len = (asE ws en (mR nx pa er)).fst.d.len /\ (0 : Int) = (0 : Int) /\ (0 : Int) = (0 : Int) /\ (0 : Int) = (0 : Int) /\ Value.string ByteArray.empty = Value.string ByteArray.empty /\ (0 : Int) = (0 : Int) /\ (0 : Int) = (0 : Int) /\ Value.string ByteArray.empty = Value.string ByteArray.empty /\ ws.rows = ws.rows /\ (exR ws en seB (smX en ws (0 : Int) (exR ws en eqB (nmR ws en (mR nx pa er)))).snd).nx = (asR ws en (mR nx pa er)).nx /\ en = en /\ (exR ws en seB (smX en ws (0 : Int) (exR ws en eqB (nmR ws en (mR nx pa er)))).snd).pa = (asR ws en (mR nx pa er)).pa /\ (exR ws en seB (smX en ws (0 : Int) (exR ws en eqB (nmR ws en (mR nx pa er)))).snd).er = (asR ws en (mR nx pa er)).er /\ (smX en ws (0 : Int) (exR ws en eqB (nmR ws en (mR nx pa er)))).fst.d.rows = (asE ws en (mR nx pa er)).fst.d.rows) (by kernel_rfl) ?_
    intro h
    have a := (nm_up en (r := mR nx pa er) h).1
    have b := (ex_up en (t := eqB) a (by decide)).1
    have c := ((smX_up en ws 0).up _ b).2.1
    try simp only [etR]
    (repeat' (with_reducible apply And.intro)) <;> first | with_reducible rfl | exact True.intro | assumption | exact (lf_lt (by assumption)).1 | exact (lf_lt (by assumption)).2 | decide | rfl
  · trivial
noncomputable def assS : List Dat -> Option (Eff × List Seg) := fun ds => match ds with
  | [.d ws, .i nx, .i en, .i pa, .i er] => some ({ val := .one (.agg [.c (.int .i64 (.sym 6)), .c (.raw (.string (ByteArray.empty))), .c (.raw (.string (ByteArray.empty))), .c (.int .i64 (.sym 0)), .c (.int .i64 (.sym 0)), .c (.raw (.string ByteArray.empty)), .c .nils, .c (.int .i64 (.sym (atC ws en (mR nx pa er)).op)), .c (.int .i64 (.sym ((atC ws en (mR nx pa er)).l).k)), .c (.int .i64 (.sym ((atC ws en (mR nx pa er)).l).n)), .c (.raw (.string ((atC ws en (mR nx pa er)).l).s)), .c (.osl 90 0 (.lit 0) (.sym ((atC ws en (mR nx pa er)).l).d.len)), .c (.int .i64 (.sym ((atC ws en (mR nx pa er)).r).k)), .c (.int .i64 (.sym ((atC ws en (mR nx pa er)).r).n)), .c (.raw (.string ((atC ws en (mR nx pa er)).r).s)), .c (.osl 90 1 (.lit 0) (.sym ((atC ws en (mR nx pa er)).r).d.len)), .c .nils, .c .nils, .c .nils]), vc := [rdOK ws nx], nw := [(0, .orow 90 (atC ws en (mR nx pa er)).l.d), (1, .orow 90 (atC ws en (mR nx pa er)).r.d)] }, [.c (.rows 115 ws), .c (.int .i64 (.sym ((atR ws en (mR nx pa er)).nx))), .c (.int .i64 (.sym en)), .c (.int .i64 (.sym ((atR ws en (mR nx pa er)).pa))), .c (.int .i64 (.sym ((atR ws en (mR nx pa er)).er)))])
  | _ => none
noncomputable def assC : Con := conM 64 [.c (.rows 115), .c (.int .i64), .c (.int .i64), .c (.int .i64), .c (.int .i64)] [] assS
theorem ass_ok : ConOK Try.prog 89 assC := by
  refine fn_obM tt_ok mixed Try.func89 rfl (fun _ _ => by kernel_rfl) (A := fun ds => ⟨fun _ => Cons.of [(97, cndC), (71, expC)], fun _ => none, fun _ => none⟩) (fun _ _ => (cons_cons cnd_ok (cons_cons exp_ok cons_nil))) (by kernel_rfl) ?_
  intro ds
  unfold assS
  split
  · rename_i ws nx en pa er
    refine kmp (q := rdOK ws nx -> rdOK ws nx /\ 0 < kwA.size /\ rdOK ws (exR ws en kwA (mR nx pa er)).nx /\ rdOK ws (cdR ws en (exR ws en kwA (mR nx pa er))).nx /\ 0 < seB.size /\ (6 : Int) = (6 : Int) /\ Value.string ByteArray.empty = Value.string ByteArray.empty /\ Value.string ByteArray.empty = Value.string ByteArray.empty /\ (0 : Int) = (0 : Int) /\ (0 : Int) = (0 : Int) /\ Value.string ByteArray.empty = Value.string ByteArray.empty /\ (cdC ws en (exR ws en kwA (mR nx pa er))).op = (atC ws en (mR nx pa er)).op /\ (cdC ws en (exR ws en kwA (mR nx pa er))).l.k = (atC ws en (mR nx pa er)).l.k /\ (cdC ws en (exR ws en kwA (mR nx pa er))).l.n = (atC ws en (mR nx pa er)).l.n /\ Value.string (cdC ws en (exR ws en kwA (mR nx pa er))).l.s = Value.string (atC ws en (mR nx pa er)).l.s /\ (cdC ws en (exR ws en kwA (mR nx pa er))).l.d.len = (atC ws en (mR nx pa er)).l.d.len /\ (cdC ws en (exR ws en kwA (mR nx pa er))).r.k = (atC ws en (mR nx pa er)).r.k /\ (cdC ws en (exR ws en kwA (mR nx pa er))).r.n = (atC ws en (mR nx pa er)).r.n /\ Value.string (cdC ws en (exR ws en kwA (mR nx pa er))).r.s = Value.string (atC ws en (mR nx pa er)).r.s /\ (cdC ws en (exR ws en kwA (mR nx pa er))).r.d.len = (atC ws en (mR nx pa er)).r.d.len /\ ws.rows = ws.rows /\ (exR ws en seB (cdR ws en (exR ws en kwA (mR nx pa er)))).nx = (atR ws en (mR nx pa er)).nx /\ en = en /\ (exR ws en seB (cdR ws en (exR ws en kwA (mR nx pa er)))).pa = (atR ws en (mR nx pa er)).pa /\ (exR ws en seB (cdR ws en (exR ws en kwA (mR nx pa er)))).er = (atR ws en (mR nx pa er)).er /\ (cdC ws en (exR ws en kwA (mR nx pa er))).l.d.rows = (atC ws en (mR nx pa er)).l.d.rows /\ (cdC ws en (exR ws en kwA (mR nx pa er))).r.d.rows = (atC ws en (mR nx pa er)).r.d.rows) (by kernel_rfl) ?_
    intro h
    have a1 := (ex_up en (t := kwA) (r := mR nx pa er) h (by decide)).1
    obtain ⟨_, _, _, _, a2, _⟩ := cd_up en a1
    try simp only [etR]
    (repeat' (with_reducible apply And.intro)) <;> first | with_reducible rfl | exact True.intro | assumption | exact (lf_lt (by assumption)).1 | exact (lf_lt (by assumption)).2 | decide | rfl
  · trivial
noncomputable def inpS : List Dat -> Option (Eff × List Seg) := fun ds => match ds with
  | [.d ws, .i nx, .i en, .i pa, .i er] => some ({ val := .one (.agg [.c (.int .i64 (.sym 7)), .c (.raw (.string (nmS ws (exR ws en kwI (mR nx pa er))))), .c (.raw (.string (ByteArray.empty))), .c (.int .i64 (.sym 0)), .c (.int .i64 (.sym 0)), .c (.raw (.string ByteArray.empty)), .c .nils, .c (.int .i64 (.sym 0)), .c (.int .i64 (.sym 0)), .c (.int .i64 (.sym 0)), .c (.raw (.string ByteArray.empty)), .c .nils, .c (.int .i64 (.sym 0)), .c (.int .i64 (.sym 0)), .c (.raw (.string ByteArray.empty)), .c .nils, .c .nils, .c .nils, .c .nils]), vc := [rdOK ws nx] }, [.c (.rows 115 ws), .c (.int .i64 (.sym ((inR ws en (mR nx pa er)).nx))), .c (.int .i64 (.sym en)), .c (.int .i64 (.sym ((inR ws en (mR nx pa er)).pa))), .c (.int .i64 (.sym ((inR ws en (mR nx pa er)).er)))])
  | _ => none
noncomputable def inpC : Con := conM 64 [.c (.rows 115), .c (.int .i64), .c (.int .i64), .c (.int .i64), .c (.int .i64)] [] inpS
theorem inp_ok : ConOK Try.prog 90 inpC := by
  refine fn_obM tt_ok mixed Try.func90 rfl (fun _ _ => by kernel_rfl) (A := fun ds => ⟨fun _ => Cons.of [(68, namC), (71, expC)], fun _ => none, fun _ => none⟩) (fun _ _ => (cons_cons nam_ok (cons_cons exp_ok cons_nil))) (by kernel_rfl) ?_
  intro ds
  unfold inpS
  split
  · rename_i ws nx en pa er
    refine kmp (q := rdOK ws nx -> rdOK ws nx /\ 0 < kwI.size /\ rdOK ws (exR ws en kwI (mR nx pa er)).nx /\ rdOK ws (nmR ws en (exR ws en kwI (mR nx pa er))).nx /\ 0 < seB.size /\ (7 : Int) = (7 : Int) /\ Value.string (nmS ws (exR ws en kwI (mR nx pa er))) = Value.string (nmS ws (exR ws en kwI (mR nx pa er))) /\ Value.string ByteArray.empty = Value.string ByteArray.empty /\ (0 : Int) = (0 : Int) /\ (0 : Int) = (0 : Int) /\ Value.string ByteArray.empty = Value.string ByteArray.empty /\ (0 : Int) = (0 : Int) /\ (0 : Int) = (0 : Int) /\ (0 : Int) = (0 : Int) /\ Value.string ByteArray.empty = Value.string ByteArray.empty /\ (0 : Int) = (0 : Int) /\ (0 : Int) = (0 : Int) /\ Value.string ByteArray.empty = Value.string ByteArray.empty /\ ws.rows = ws.rows /\ (exR ws en seB (nmR ws en (exR ws en kwI (mR nx pa er)))).nx = (inR ws en (mR nx pa er)).nx /\ en = en /\ (exR ws en seB (nmR ws en (exR ws en kwI (mR nx pa er)))).pa = (inR ws en (mR nx pa er)).pa /\ (exR ws en seB (nmR ws en (exR ws en kwI (mR nx pa er)))).er = (inR ws en (mR nx pa er)).er) (by kernel_rfl) ?_
    intro h
    have a1 := (ex_up en (t := kwI) (r := mR nx pa er) h (by decide)).1
    have a2 := (nm_up en a1).1
    try simp only [etR]
    (repeat' (with_reducible apply And.intro)) <;> first | with_reducible rfl | exact True.intro | assumption | exact (lf_lt (by assumption)).1 | exact (lf_lt (by assumption)).2 | decide | rfl
  · trivial
end Go.Proofs.Ytbhbjhejkamlnaa.Sx.Z
namespace Go.Proofs.Ytbhbjhejkamlnaa.Sx.Z
open Go.RowKit
noncomputable def sndS : List Dat -> Option (Eff × List Seg) := fun ds => match ds with
  | [.d ws, .i nx, .i en, .i pa, .i er] => some ({ val := .one (.agg [.c (.int .i64 (.sym 4)), .c (.raw (.string (nmS ws (snN ws en (mR nx pa er))))), .c (.raw (.string (nmS ws (snT ws en (mR nx pa er))))), .c (.int .i64 (.sym ((snE ws en (mR nx pa er)).1).k)), .c (.int .i64 (.sym ((snE ws en (mR nx pa er)).1).n)), .c (.raw (.string ((snE ws en (mR nx pa er)).1).s)), .c (.osl 90 0 (.lit 0) (.sym ((snE ws en (mR nx pa er)).1).d.len)), .c (.int .i64 (.sym 0)), .c (.int .i64 (.sym 0)), .c (.int .i64 (.sym 0)), .c (.raw (.string ByteArray.empty)), .c .nils, .c (.int .i64 (.sym 0)), .c (.int .i64 (.sym 0)), .c (.raw (.string ByteArray.empty)), .c .nils, .c .nils, .c .nils, .c .nils]), vc := [rdOK ws nx], nw := [(0, .orow 90 (snE ws en (mR nx pa er)).1.d)] }, [.c (.rows 115 ws), .c (.int .i64 (.sym ((snR ws en (mR nx pa er)).nx))), .c (.int .i64 (.sym en)), .c (.int .i64 (.sym ((snR ws en (mR nx pa er)).pa))), .c (.int .i64 (.sym ((snR ws en (mR nx pa er)).er)))])
  | _ => none
noncomputable def sndC : Con := conM 64 [.c (.rows 115), .c (.int .i64), .c (.int .i64), .c (.int .i64), .c (.int .i64)] [] sndS
theorem snd_ok : ConOK Try.prog 87 sndC := by
  refine fn_obM tt_ok mixed Try.func87 rfl (fun _ _ => by kernel_rfl) (A := fun ds => ⟨fun _ => Cons.of [(99, (partC smX 1000001)), (71, expC), (68, namC)], fun _ => none, fun _ => none⟩) (fun _ _ => (cons_cons smX_ok (cons_cons exp_ok (cons_cons nam_ok cons_nil)))) (by kernel_rfl) ?_
  intro ds
  unfold sndS
  split
  · rename_i ws nx en pa er
    refine kmp (q := rdOK ws nx -> rdOK ws nx /\ 0 < (ByteArray.mk #[115, 101, 110, 100]).size /\ rdOK ws (exR ws en (ByteArray.mk #[115, 101, 110, 100]) (mR nx pa er)).nx /\ rdOK ws (nmR ws en (exR ws en (ByteArray.mk #[115, 101, 110, 100]) (mR nx pa er))).nx /\ 0 < (ByteArray.mk #[46]).size /\ rdOK ws (exR ws en (ByteArray.mk #[46]) (nmR ws en (exR ws en (ByteArray.mk #[115, 101, 110, 100]) (mR nx pa er)))).nx /\ rdOK ws (nmR ws en (exR ws en (ByteArray.mk #[46]) (nmR ws en (exR ws en (ByteArray.mk #[115, 101, 110, 100]) (mR nx pa er))))).nx /\ 0 < (ByteArray.mk #[40]).size /\ rdOK ws (exR ws en (ByteArray.mk #[40]) (nmR ws en (exR ws en (ByteArray.mk #[46]) (nmR ws en (exR ws en (ByteArray.mk #[115, 101, 110, 100]) (mR nx pa er)))))).nx /\ dpOK ws (exR ws en (ByteArray.mk #[40]) (nmR ws en (exR ws en (ByteArray.mk #[46]) (nmR ws en (exR ws en (ByteArray.mk #[115, 101, 110, 100]) (mR nx pa er)))))) (0 : Int) /\ left ws (exR ws en (ByteArray.mk #[40]) (nmR ws en (exR ws en (ByteArray.mk #[46]) (nmR ws en (exR ws en (ByteArray.mk #[115, 101, 110, 100]) (mR nx pa er)))))) < 1000001 /\ rdOK ws (smX en ws (0 : Int) (exR ws en (ByteArray.mk #[40]) (nmR ws en (exR ws en (ByteArray.mk #[46]) (nmR ws en (exR ws en (ByteArray.mk #[115, 101, 110, 100]) (mR nx pa er))))))).snd.nx /\ 0 < (ByteArray.mk #[41]).size /\ rdOK ws (exR ws en (ByteArray.mk #[41]) (smX en ws (0 : Int) (exR ws en (ByteArray.mk #[40]) (nmR ws en (exR ws en (ByteArray.mk #[46]) (nmR ws en (exR ws en (ByteArray.mk #[115, 101, 110, 100]) (mR nx pa er))))))).snd).nx /\ 0 < (ByteArray.mk #[59]).size /\ (4 : Int) = (4 : Int) /\ Value.string (nmS ws (exR ws en (ByteArray.mk #[115, 101, 110, 100]) (mR nx pa er))) = Value.string (nmS ws (snN ws en (mR nx pa er))) /\ Value.string (nmS ws (exR ws en (ByteArray.mk #[46]) (nmR ws en (exR ws en (ByteArray.mk #[115, 101, 110, 100]) (mR nx pa er))))) = Value.string (nmS ws (snT ws en (mR nx pa er))) /\ (smX en ws (0 : Int) (exR ws en (ByteArray.mk #[40]) (nmR ws en (exR ws en (ByteArray.mk #[46]) (nmR ws en (exR ws en (ByteArray.mk #[115, 101, 110, 100]) (mR nx pa er))))))).fst.k = (snE ws en (mR nx pa er)).fst.k /\ (smX en ws (0 : Int) (exR ws en (ByteArray.mk #[40]) (nmR ws en (exR ws en (ByteArray.mk #[46]) (nmR ws en (exR ws en (ByteArray.mk #[115, 101, 110, 100]) (mR nx pa er))))))).fst.n = (snE ws en (mR nx pa er)).fst.n /\ Value.string (smX en ws (0 : Int) (exR ws en (ByteArray.mk #[40]) (nmR ws en (exR ws en (ByteArray.mk #[46]) (nmR ws en (exR ws en (ByteArray.mk #[115, 101, 110, 100]) (mR nx pa er))))))).fst.s = Value.string (snE ws en (mR nx pa er)).fst.s /\ (smX en ws (0 : Int) (exR ws en (ByteArray.mk #[40]) (nmR ws en (exR ws en (ByteArray.mk #[46]) (nmR ws en (exR ws en (ByteArray.mk #[115, 101, 110, 100]) (mR nx pa er))))))).fst.d.len = (snE ws en (mR nx pa er)).fst.d.len /\ (0 : Int) = (0 : Int) /\ (0 : Int) = (0 : Int) /\ (0 : Int) = (0 : Int) /\ Value.string ByteArray.empty = Value.string ByteArray.empty /\ (0 : Int) = (0 : Int) /\ (0 : Int) = (0 : Int) /\ Value.string ByteArray.empty = Value.string ByteArray.empty /\ ws.rows = ws.rows /\ (exR ws en (ByteArray.mk #[59]) (exR ws en (ByteArray.mk #[41]) (smX en ws (0 : Int) (exR ws en (ByteArray.mk #[40]) (nmR ws en (exR ws en (ByteArray.mk #[46]) (nmR ws en (exR ws en (ByteArray.mk #[115, 101, 110, 100]) (mR nx pa er))))))).snd)).nx = (snR ws en (mR nx pa er)).nx /\ en = en /\ (exR ws en (ByteArray.mk #[59]) (exR ws en (ByteArray.mk #[41]) (smX en ws (0 : Int) (exR ws en (ByteArray.mk #[40]) (nmR ws en (exR ws en (ByteArray.mk #[46]) (nmR ws en (exR ws en { data := #[(115 : UInt8), (101 : UInt8), (110 : UInt8), (100 : UInt8)] } (mR nx pa er))))))).snd)).pa = (snR ws en (mR nx pa er)).pa /\ (exR ws en (ByteArray.mk #[59]) (exR ws en (ByteArray.mk #[41]) (smX en ws (0 : Int) (exR ws en (ByteArray.mk #[40]) (nmR ws en (exR ws en (ByteArray.mk #[46]) (nmR ws en (exR ws en { data := #[(115 : UInt8), (101 : UInt8), (110 : UInt8), (100 : UInt8)] } (mR nx pa er))))))).snd)).er = (snR ws en (mR nx pa er)).er /\ (smX en ws (0 : Int) (exR ws en (ByteArray.mk #[40]) (nmR ws en (exR ws en (ByteArray.mk #[46]) (nmR ws en (exR ws en { data := #[(115 : UInt8), (101 : UInt8), (110 : UInt8), (100 : UInt8)] } (mR nx pa er))))))).fst.d.rows = (snE ws en (mR nx pa er)).fst.d.rows) (by kernel_rfl) ?_
    intro h
    have a1 := (ex_up en (t := kwS) (r := mR nx pa er) h (by decide)).1
    have a2 := (nm_up en a1).1
    have a3 := (ex_up en (t := doB) a2 (by decide)).1
    have a4 := (nm_up en a3).1
    have a5 := (ex_up en (t := opB) a4 (by decide)).1
    have a6 := ((smX_up en ws 0).up _ a5).2.1
    have a7 := (ex_up en (t := clB) a6 (by decide)).1
    (repeat' (with_reducible apply And.intro)) <;> first | with_reducible rfl | exact True.intro | assumption | exact (lf_lt (by assumption)).1 | exact (lf_lt (by assumption)).2 | decide | rfl
  · trivial
end Go.Proofs.Ytbhbjhejkamlnaa.Sx.Z
namespace Go.Proofs.Ytbhbjhejkamlnaa.Sx.Z
open Go.RowKit
def obB : ByteArray := ⟨#[123]⟩
def cbB : ByteArray := ⟨#[125]⟩
def kwF : ByteArray := ⟨#[105, 102]⟩
def kwL : ByteArray := ⟨#[101, 108, 115, 101]⟩
def kwW : ByteArray := ⟨#[119, 104, 105, 108, 101]⟩
def kwR : ByteArray := ⟨#[114, 101, 99, 118]⟩
def X00 : Xp := ⟨0, 0, ByteArray.empty, .l []⟩
def C00 : Cd := ⟨0, X00, X00⟩
structure St where
  k : Int
  nm : ByteArray
  tg : ByteArray
  e : Xp
  c : Cd
  b : D
  el : D
  ar : D
def St.row (s : St) : List D := [.i s.k, .s s.nm, .s s.tg, .i s.e.k, .i s.e.n, .s s.e.s, .l s.e.d.rows, .i s.c.op, .i s.c.l.k, .i s.c.l.n, .s s.c.l.s, .l s.c.l.d.rows, .i s.c.r.k, .i s.c.r.n, .s s.c.r.s, .l s.c.r.d.rows, .l s.b.rows, .l s.el.rows, .l s.ar.rows]
structure Am where
  tg : ByteArray
  vr : ByteArray
  b : D
def Am.row (a : Am) : List D := [.s a.tg, .s a.vr, .l a.b.rows]
abbrev PB := Int -> D -> Int -> Rd -> D × Rd
structure PbOK (ws : D) (P : Rd -> D × Rd) : Prop where
  up : ∀ r, rdOK ws r.nx -> r.nx <= (P r).2.nx /\ rdOK ws (P r).2.nx
def dqOK (ws : D) (r : Rd) (dp : Int) : Prop := 0 <= dp /\ dp + 1 + (left ws r : Int) <= 2000000
def blF (P : PB) : PB := fun en ws dp r => ((P en ws (dp + 1) (neR ws en obB dp r)).1, exR ws en cbB (P en ws (dp + 1) (neR ws en obB dp r)).2)
theorem neR_up {ws : D} {en dp : Int} {t : ByteArray} {r : Rd} (h : rdOK ws r.nx) (ht : 0 < t.size) : rdOK ws (neR ws en t dp r).nx /\ r.nx <= (neR ws en t dp r).nx := by
  cases ha : acB ws r.nx t with
  | true =>
    have := ne_up (en := en) (dp := dp) h ht ha
    exact ⟨this.1, this.2.2⟩
  | false =>
    have e : neR ws en t dp r = fl ws en 5 r := by
      unfold neR
      rw [if_neg (fun hx => by rw [ha] at hx; exact Bool.false_ne_true hx.1), exR_no ha]
    rw [e]
    exact fl_up en 5 h
theorem blF_up {P : PB} {ws : D} {en : Int} (hPa : ∀ dp, PbOK ws (P en ws dp)) {dp : Int} {r : Rd} (h : rdOK ws r.nx) : rdOK ws (neR ws en obB dp r).nx /\ r.nx <= (neR ws en obB dp r).nx /\ rdOK ws (P en ws (dp + 1) (neR ws en obB dp r)).2.nx /\ rdOK ws (blF P en ws dp r).2.nx /\ r.nx <= (blF P en ws dp r).2.nx := by
  have a := neR_up (en := en) (dp := dp) (t := obB) h (by decide)
  have b := (hPa (dp + 1)).up _ a.1
  have c := ex_up en (t := cbB) b.2 (by decide)
  exact ⟨a.1, a.2, b.2, c.1, Int.le_trans a.2 (Int.le_trans b.1 c.2)⟩
theorem wr1 {dp : Int} (h : 0 <= dp) (h2 : dp <= 2000000) : IntKind.i64.wrap (dp + 1) = dp + 1 := by
  rw [IntWalk.i64_in _ (by omega)]
theorem dq_d {ws : D} {r q : Rd} {dp : Int} (h : dqOK ws r dp) (hn : r.nx <= q.nx) : dpOK ws q (dp + 1) := by
  obtain ⟨a, b⟩ := h
  have := left_le (ws := ws) hn
  exact ⟨by omega, by omega⟩
theorem dp_q {ws : D} {r q : Rd} {dp : Int} (h : dpOK ws r dp) (hr : rdOK ws r.nx) (hl : r.nx < ws.len) (hn : r.nx < q.nx) : dqOK ws q dp /\ left ws q < left ws r := by
  obtain ⟨a, b⟩ := h
  obtain ⟨c, d, e⟩ := hr
  have : left ws q + 1 <= left ws r := by unfold left; omega
  exact ⟨⟨a, by omega⟩, by omega⟩
theorem ex_lt {ws : D} (en : Int) {t : ByteArray} {r : Rd} (hl : r.nx < ws.len) : r.nx < (exR ws en t r).nx := by
  cases ha : acB ws r.nx t with
  | true =>
    rw [exR_yes ha]
    exact Int.lt_succ _
  | false =>
    rw [exR_no ha, fl_nx]
    exact hl
theorem ac_up {ws : D} {t : ByteArray} {r : Rd} (h : rdOK ws r.nx) (ht : 0 < t.size) : rdOK ws (acR ws t r).nx /\ r.nx <= (acR ws t r).nx := by
  cases ha : acB ws r.nx t with
  | true =>
    rw [acR_yes ha]
    exact gx_up h (ac_lt ht ha)
  | false =>
    rw [acR_no ha]
    exact ⟨h, Int.le_refl _⟩
noncomputable def stmS (P : PB) (m : Nat) : List Dat -> Option (Eff × List Seg) := fun ds => match ds with
  | [.d ws, .i nx, .i en, .i pa, .i er, .i dp] => some ({ val := .one (.sc (.osl 95 (0) (.lit 0) (.sym ((P en ws dp (mR nx pa er)).1.len)))), vc := [rdOK ws nx, dpOK ws (mR nx pa er) dp, left ws (mR nx pa er) < m], nw := [(0, .orow 95 ((P en ws dp (mR nx pa er)).1))] }, [.c (.rows 115 ws), .c (.int .i64 (.sym ((((P en ws dp (mR nx pa er)).2)).nx))), .c (.int .i64 (.sym en)), .c (.int .i64 (.sym ((((P en ws dp (mR nx pa er)).2)).pa))), .c (.int .i64 (.sym ((((P en ws dp (mR nx pa er)).2)).er)))])
  | _ => none
noncomputable def stmC (P : PB) (m : Nat) : Con := conM 64 [.c (.rows 115), .c (.int .i64), .c (.int .i64), .c (.int .i64), .c (.int .i64)] [.sc (.int .i64)] (stmS P m)
def cfA (P : PB) (en : Int) (ws : D) (dp : Int) (r : Rd) : D × Rd := blF P en ws dp (cdR ws en (exR ws en kwF r))
def cfB (P : PB) (en : Int) (ws : D) (dp : Int) (r : Rd) : D × Rd := if acB ws (cfA P en ws dp r).2.nx kwL = true then blF P en ws dp (acR ws kwL (cfA P en ws dp r).2) else (.l [], acR ws kwL (cfA P en ws dp r).2)
def cfS (P : PB) (en : Int) (ws : D) (dp : Int) (r : Rd) : St := ⟨2, ByteArray.empty, ByteArray.empty, X00, cdC ws en (exR ws en kwF r), (cfA P en ws dp r).1, (cfB P en ws dp r).1, .l []⟩
def lpA (P : PB) (en : Int) (ws : D) (dp : Int) (r : Rd) : D × Rd := blF P en ws dp (cdR ws en (exR ws en kwW r))
def lpS (P : PB) (en : Int) (ws : D) (dp : Int) (r : Rd) : St := ⟨3, ByteArray.empty, ByteArray.empty, X00, cdC ws en (exR ws en kwW r), (lpA P en ws dp r).1, .l [], .l []⟩
def amX (en : Int) (ws : D) (r : Rd) : Rd := nmR ws en (exR ws en opB (nmR ws en r))
def amA (P : PB) (en : Int) (ws : D) (dp : Int) (r : Rd) : D × Rd := blF P en ws dp (exR ws en clB (amX en ws r))
def amS (P : PB) (en : Int) (ws : D) (dp : Int) (r : Rd) : Am := ⟨nmS ws r, nmS ws (exR ws en opB (nmR ws en r)), (amA P en ws dp r).1⟩
theorem dq_le {ws : D} {r q : Rd} {dp : Int} (h : dqOK ws r dp) (hn : r.nx <= q.nx) : dqOK ws q dp := by
  obtain ⟨a, b⟩ := h
  have := left_le (ws := ws) hn
  exact ⟨a, by omega⟩
noncomputable def blkS (P : PB) (m : Nat) : List Dat -> Option (Eff × List Seg) := fun ds => match ds with
  | [.d ws, .i nx, .i en, .i pa, .i er, .i dp] => some ({ val := .one (.sc (.osl 95 (0) (.lit 0) (.sym ((blF P en ws dp (mR nx pa er)).1.len)))), vc := [rdOK ws nx, dqOK ws (mR nx pa er) dp, left ws (mR nx pa er) < m], nw := [(0, .orow 95 ((blF P en ws dp (mR nx pa er)).1))] }, [.c (.rows 115 ws), .c (.int .i64 (.sym ((((blF P en ws dp (mR nx pa er)).2)).nx))), .c (.int .i64 (.sym en)), .c (.int .i64 (.sym ((((blF P en ws dp (mR nx pa er)).2)).pa))), .c (.int .i64 (.sym ((((blF P en ws dp (mR nx pa er)).2)).er)))])
  | _ => none
noncomputable def blkC (P : PB) (m : Nat) : Con := conM 64 [.c (.rows 115), .c (.int .i64), .c (.int .i64), .c (.int .i64), .c (.int .i64)] [.sc (.int .i64)] (blkS P m)
theorem blk_ok {P : PB} {m : Nat} (hP : ConOK Try.prog 72 (stmC P m)) (hPa : ∀ en ws dp, PbOK ws (P en ws dp)) : ConOK Try.prog 98 (blkC P m) := by
  refine fn_obM tt_ok mixed Try.func98 rfl (fun _ _ => by kernel_rfl) (A := fun ds => ⟨fun _ => Cons.of [(104, nstC), (72, (stmC P m)), (71, expC)], fun _ => none, fun _ => none⟩) (fun _ _ => (cons_cons nst_ok (cons_cons hP (cons_cons exp_ok cons_nil)))) (by kernel_rfl) ?_
  intro ds
  unfold blkS
  split
  · rename_i ws nx en pa er dp
    refine kmp (q := rdOK ws nx -> dqOK ws (mR nx pa er) dp -> left ws (mR nx pa er) < m -> rdOK ws nx /\ 0 < (ByteArray.mk #[123]).size /\ rdOK ws (neR ws en (ByteArray.mk #[123]) dp (mR nx pa er)).nx /\ dpOK ws (neR ws en (ByteArray.mk #[123]) dp (mR nx pa er)) (IntKind.i64.wrap (dp + 1)) /\ left ws (neR ws en (ByteArray.mk #[123]) dp (mR nx pa er)) < m /\ rdOK ws (P en ws (IntKind.i64.wrap (dp + 1)) (neR ws en (ByteArray.mk #[123]) dp (mR nx pa er))).snd.nx /\ 0 < (ByteArray.mk #[125]).size /\ (P en ws (IntKind.i64.wrap (dp + 1)) (neR ws en (ByteArray.mk #[123]) dp (mR nx pa er))).fst.len = (blF P en ws dp (mR nx pa er)).fst.len /\ ws.rows = ws.rows /\ (exR ws en (ByteArray.mk #[125]) (P en ws (IntKind.i64.wrap (dp + 1)) (neR ws en (ByteArray.mk #[123]) dp (mR nx pa er))).snd).nx = (blF P en ws dp (mR nx pa er)).snd.nx /\ en = en /\ (exR ws en (ByteArray.mk #[125]) (P en ws (IntKind.i64.wrap (dp + 1)) (neR ws en (ByteArray.mk #[123]) dp (mR nx pa er))).snd).pa = (blF P en ws dp (mR nx pa er)).snd.pa /\ (exR ws en (ByteArray.mk #[125]) (P en ws (IntKind.i64.wrap (dp + 1)) (neR ws en (ByteArray.mk #[123]) dp (mR nx pa er))).snd).er = (blF P en ws dp (mR nx pa er)).snd.er /\ (P en ws (IntKind.i64.wrap (dp + 1)) (neR ws en (ByteArray.mk #[123]) dp (mR nx pa er))).fst.rows = (blF P en ws dp (mR nx pa er)).fst.rows) (by kernel_rfl) ?_
    intro h hd hl
    have e1 : IntKind.i64.wrap (dp + 1) = dp + 1 := wr1 hd.1 (by have := hd.2; omega)
    simp only [e1]
    obtain ⟨a, b, c, d, e⟩ := blF_up (hPa en ws) (dp := dp) (r := mR nx pa er) h
    have f := dq_d (q := neR ws en obB dp (mR nx pa er)) hd b
    have g : left ws (neR ws en obB dp (mR nx pa er)) < m := Nat.lt_of_le_of_lt (left_le b) hl
    (repeat' (with_reducible apply And.intro)) <;> first | with_reducible rfl | exact True.intro | with_reducible assumption | decide | assumption | rfl
  · trivial
noncomputable def choS (P : PB) (m : Nat) : List Dat -> Option (Eff × List Seg) := fun ds => match ds with
  | [.d ws, .i nx, .i en, .i pa, .i er, .i dp] => some ({ val := .one (.agg [.c (.int .i64 (.sym ((cfS P en ws dp (mR nx pa er))).k)), .c (.raw (.string ((cfS P en ws dp (mR nx pa er))).nm)), .c (.raw (.string ((cfS P en ws dp (mR nx pa er))).tg)), .c (.int .i64 (.sym (((cfS P en ws dp (mR nx pa er))).e).k)), .c (.int .i64 (.sym (((cfS P en ws dp (mR nx pa er))).e).n)), .c (.raw (.string (((cfS P en ws dp (mR nx pa er))).e).s)), .c (.osl 90 0 (.lit 0) (.sym (((cfS P en ws dp (mR nx pa er))).e).d.len)), .c (.int .i64 (.sym ((cfS P en ws dp (mR nx pa er))).c.op)), .c (.int .i64 (.sym (((cfS P en ws dp (mR nx pa er))).c.l).k)), .c (.int .i64 (.sym (((cfS P en ws dp (mR nx pa er))).c.l).n)), .c (.raw (.string (((cfS P en ws dp (mR nx pa er))).c.l).s)), .c (.osl 90 1 (.lit 0) (.sym (((cfS P en ws dp (mR nx pa er))).c.l).d.len)), .c (.int .i64 (.sym (((cfS P en ws dp (mR nx pa er))).c.r).k)), .c (.int .i64 (.sym (((cfS P en ws dp (mR nx pa er))).c.r).n)), .c (.raw (.string (((cfS P en ws dp (mR nx pa er))).c.r).s)), .c (.osl 90 2 (.lit 0) (.sym (((cfS P en ws dp (mR nx pa er))).c.r).d.len)), .c (.osl 95 3 (.lit 0) (.sym ((cfS P en ws dp (mR nx pa er))).b.len)), .c (.osl 95 4 (.lit 0) (.sym ((cfS P en ws dp (mR nx pa er))).el.len)), .c (.osl 135 5 (.lit 0) (.sym ((cfS P en ws dp (mR nx pa er))).ar.len))]), vc := [rdOK ws nx, dpOK ws (mR nx pa er) dp, left ws (mR nx pa er) < m + 1, (mR nx pa er).nx < ws.len], nw := [(0, .orow 90 ((cfS P en ws dp (mR nx pa er))).e.d), (1, .orow 90 ((cfS P en ws dp (mR nx pa er))).c.l.d), (2, .orow 90 ((cfS P en ws dp (mR nx pa er))).c.r.d), (3, .orow 95 ((cfS P en ws dp (mR nx pa er))).b), (4, .orow 95 ((cfS P en ws dp (mR nx pa er))).el), (5, .orow 135 ((cfS P en ws dp (mR nx pa er))).ar)] }, [.c (.rows 115 ws), .c (.int .i64 (.sym ((((cfB P en ws dp (mR nx pa er)).2)).nx))), .c (.int .i64 (.sym en)), .c (.int .i64 (.sym ((((cfB P en ws dp (mR nx pa er)).2)).pa))), .c (.int .i64 (.sym ((((cfB P en ws dp (mR nx pa er)).2)).er)))])
  | _ => none
noncomputable def choC (P : PB) (m : Nat) : Con := conM 64 [.c (.rows 115), .c (.int .i64), .c (.int .i64), .c (.int .i64), .c (.int .i64)] [.sc (.int .i64)] (choS P m)
theorem cho_ok {P : PB} {m : Nat} (hP : ConOK Try.prog 72 (stmC P m)) (hPa : ∀ en ws dp, PbOK ws (P en ws dp)) : ConOK Try.prog 85 (choC P m) := by
  refine fn_obM tt_ok mixed Try.func85 rfl (fun _ _ => by kernel_rfl) (A := fun ds => ⟨fun _ => Cons.of [(98, (blkC P m)), (97, cndC), (71, expC), (37, accC)], fun _ => none, fun _ => none⟩) (fun _ _ => (cons_cons (blk_ok hP hPa) (cons_cons cnd_ok (cons_cons exp_ok (cons_cons acc_ok cons_nil))))) (by kernel_rfl) ?_
  intro ds
  unfold choS
  split
  · rename_i ws nx en pa er dp
    refine kmp (q := rdOK ws nx -> dpOK ws (mR nx pa er) dp -> left ws (mR nx pa er) < m + 1 -> (mR nx pa er).nx < (↑ws.len : Int) -> rdOK ws nx /\ 0 < (ByteArray.mk #[105, 102]).size /\ rdOK ws (exR ws en (ByteArray.mk #[105, 102]) (mR nx pa er)).nx /\ rdOK ws (cdR ws en (exR ws en (ByteArray.mk #[105, 102]) (mR nx pa er))).nx /\ dqOK ws (cdR ws en (exR ws en (ByteArray.mk #[105, 102]) (mR nx pa er))) dp /\ left ws (cdR ws en (exR ws en (ByteArray.mk #[105, 102]) (mR nx pa er))) < m /\ rdOK ws (blF P en ws dp (cdR ws en (exR ws en (ByteArray.mk #[105, 102]) (mR nx pa er)))).snd.nx /\ 0 < (ByteArray.mk #[101, 108, 115, 101]).size /\ (acB ws (blF P en ws dp (cdR ws en (exR ws en (ByteArray.mk #[105, 102]) (mR nx pa er)))).snd.nx (ByteArray.mk #[101, 108, 115, 101]) = true -> rdOK ws (acR ws (ByteArray.mk #[101, 108, 115, 101]) (blF P en ws dp (cdR ws en (exR ws en (ByteArray.mk #[105, 102]) (mR nx pa er)))).snd).nx /\ dqOK ws (acR ws (ByteArray.mk #[101, 108, 115, 101]) (blF P en ws dp (cdR ws en (exR ws en (ByteArray.mk #[105, 102]) (mR nx pa er)))).snd) dp /\ left ws (acR ws (ByteArray.mk #[101, 108, 115, 101]) (blF P en ws dp (cdR ws en (exR ws en (ByteArray.mk #[105, 102]) (mR nx pa er)))).snd) < m /\ (2 : Int) = (cfS P en ws dp (mR nx pa er)).k /\ Value.string ByteArray.empty = Value.string (cfS P en ws dp (mR nx pa er)).nm /\ Value.string ByteArray.empty = Value.string (cfS P en ws dp (mR nx pa er)).tg /\ (0 : Int) = (cfS P en ws dp (mR nx pa er)).e.k /\ (0 : Int) = (cfS P en ws dp (mR nx pa er)).e.n /\ Value.string ByteArray.empty = Value.string (cfS P en ws dp (mR nx pa er)).e.s /\ (cfS P en ws dp (mR nx pa er)).e.d.len = 0 /\ (cdC ws en (exR ws en (ByteArray.mk #[105, 102]) (mR nx pa er))).op = (cfS P en ws dp (mR nx pa er)).c.op /\ (cdC ws en (exR ws en (ByteArray.mk #[105, 102]) (mR nx pa er))).l.k = (cfS P en ws dp (mR nx pa er)).c.l.k /\ (cdC ws en (exR ws en (ByteArray.mk #[105, 102]) (mR nx pa er))).l.n = (cfS P en ws dp (mR nx pa er)).c.l.n /\ Value.string (cdC ws en (exR ws en (ByteArray.mk #[105, 102]) (mR nx pa er))).l.s = Value.string (cfS P en ws dp (mR nx pa er)).c.l.s /\ (cdC ws en (exR ws en (ByteArray.mk #[105, 102]) (mR nx pa er))).l.d.len = (cfS P en ws dp (mR nx pa er)).c.l.d.len /\ (cdC ws en (exR ws en (ByteArray.mk #[105, 102]) (mR nx pa er))).r.k = (cfS P en ws dp (mR nx pa er)).c.r.k /\ (cdC ws en (exR ws en (ByteArray.mk #[105, 102]) (mR nx pa er))).r.n = (cfS P en ws dp (mR nx pa er)).c.r.n /\ Value.string (cdC ws en (exR ws en (ByteArray.mk #[105, 102]) (mR nx pa er))).r.s = Value.string (cfS P en ws dp (mR nx pa er)).c.r.s /\ (cdC ws en (exR ws en (ByteArray.mk #[105, 102]) (mR nx pa er))).r.d.len = (cfS P en ws dp (mR nx pa er)).c.r.d.len /\ (blF P en ws dp (cdR ws en (exR ws en (ByteArray.mk #[105, 102]) (mR nx pa er)))).fst.len = (cfS P en ws dp (mR nx pa er)).b.len /\ (blF P en ws dp (acR ws (ByteArray.mk #[101, 108, 115, 101]) (blF P en ws dp (cdR ws en (exR ws en (ByteArray.mk #[105, 102]) (mR nx pa er)))).snd)).fst.len = (cfS P en ws dp (mR nx pa er)).el.len /\ (cfS P en ws dp (mR nx pa er)).ar.len = 0 /\ ws.rows = ws.rows /\ (blF P en ws dp (acR ws (ByteArray.mk #[101, 108, 115, 101]) (blF P en ws dp (cdR ws en (exR ws en (ByteArray.mk #[105, 102]) (mR nx pa er)))).snd)).snd.nx = (cfB P en ws dp (mR nx pa er)).snd.nx /\ en = en /\ (blF P en ws dp (acR ws { data := #[(101 : UInt8), (108 : UInt8), (115 : UInt8), (101 : UInt8)] } (blF P en ws dp (cdR ws en (exR ws en (ByteArray.mk #[105, 102]) (mR nx pa er)))).snd)).snd.pa = (cfB P en ws dp (mR nx pa er)).snd.pa /\ (blF P en ws dp (acR ws { data := #[(101 : UInt8), (108 : UInt8), (115 : UInt8), (101 : UInt8)] } (blF P en ws dp (cdR ws en (exR ws en (ByteArray.mk #[105, 102]) (mR nx pa er)))).snd)).snd.er = (cfB P en ws dp (mR nx pa er)).snd.er /\ ([] : List (List D)) = [] /\ (cdC ws en (exR ws en (ByteArray.mk #[105, 102]) (mR nx pa er))).l.d.rows = (cfS P en ws dp (mR nx pa er)).c.l.d.rows /\ (cdC ws en (exR ws en (ByteArray.mk #[105, 102]) (mR nx pa er))).r.d.rows = (cfS P en ws dp (mR nx pa er)).c.r.d.rows /\ (blF P en ws dp (cdR ws en (exR ws en (ByteArray.mk #[105, 102]) (mR nx pa er)))).fst.rows = (cfS P en ws dp (mR nx pa er)).b.rows /\ (blF P en ws dp (acR ws { data := #[(101 : UInt8), (108 : UInt8), (115 : UInt8), (101 : UInt8)] } (blF P en ws dp (cdR ws en (exR ws en (ByteArray.mk #[105, 102]) (mR nx pa er)))).snd)).fst.rows = (cfS P en ws dp (mR nx pa er)).el.rows /\ ([] : List (List D)) = []) /\ (acB ws (blF P en ws dp (cdR ws en (exR ws en (ByteArray.mk #[105, 102]) (mR nx pa er)))).snd.nx (ByteArray.mk #[101, 108, 115, 101]) = false -> (2 : Int) = (cfS P en ws dp (mR nx pa er)).k /\ Value.string ByteArray.empty = Value.string (cfS P en ws dp (mR nx pa er)).nm /\ Value.string ByteArray.empty = Value.string (cfS P en ws dp (mR nx pa er)).tg /\ (0 : Int) = (cfS P en ws dp (mR nx pa er)).e.k /\ (0 : Int) = (cfS P en ws dp (mR nx pa er)).e.n /\ Value.string ByteArray.empty = Value.string (cfS P en ws dp (mR nx pa er)).e.s /\ (cfS P en ws dp (mR nx pa er)).e.d.len = 0 /\ (cdC ws en (exR ws en (ByteArray.mk #[105, 102]) (mR nx pa er))).op = (cfS P en ws dp (mR nx pa er)).c.op /\ (cdC ws en (exR ws en (ByteArray.mk #[105, 102]) (mR nx pa er))).l.k = (cfS P en ws dp (mR nx pa er)).c.l.k /\ (cdC ws en (exR ws en (ByteArray.mk #[105, 102]) (mR nx pa er))).l.n = (cfS P en ws dp (mR nx pa er)).c.l.n /\ Value.string (cdC ws en (exR ws en (ByteArray.mk #[105, 102]) (mR nx pa er))).l.s = Value.string (cfS P en ws dp (mR nx pa er)).c.l.s /\ (cdC ws en (exR ws en (ByteArray.mk #[105, 102]) (mR nx pa er))).l.d.len = (cfS P en ws dp (mR nx pa er)).c.l.d.len /\ (cdC ws en (exR ws en (ByteArray.mk #[105, 102]) (mR nx pa er))).r.k = (cfS P en ws dp (mR nx pa er)).c.r.k /\ (cdC ws en (exR ws en (ByteArray.mk #[105, 102]) (mR nx pa er))).r.n = (cfS P en ws dp (mR nx pa er)).c.r.n /\ Value.string (cdC ws en (exR ws en (ByteArray.mk #[105, 102]) (mR nx pa er))).r.s = Value.string (cfS P en ws dp (mR nx pa er)).c.r.s /\ (cdC ws en (exR ws en (ByteArray.mk #[105, 102]) (mR nx pa er))).r.d.len = (cfS P en ws dp (mR nx pa er)).c.r.d.len /\ (blF P en ws dp (cdR ws en (exR ws en (ByteArray.mk #[105, 102]) (mR nx pa er)))).fst.len = (cfS P en ws dp (mR nx pa er)).b.len /\ (cfS P en ws dp (mR nx pa er)).el.len = 0 /\ (cfS P en ws dp (mR nx pa er)).ar.len = 0 /\ ws.rows = ws.rows /\ (acR ws (ByteArray.mk #[101, 108, 115, 101]) (blF P en ws dp (cdR ws en (exR ws en (ByteArray.mk #[105, 102]) (mR nx pa er)))).snd).nx = (cfB P en ws dp (mR nx pa er)).snd.nx /\ en = en /\ (acR ws (ByteArray.mk #[101, 108, 115, 101]) (blF P en ws dp (cdR ws en (exR ws en (ByteArray.mk #[105, 102]) (mR nx pa er)))).snd).pa = (cfB P en ws dp (mR nx pa er)).snd.pa /\ (acR ws (ByteArray.mk #[101, 108, 115, 101]) (blF P en ws dp (cdR ws en (exR ws en (ByteArray.mk #[105, 102]) (mR nx pa er)))).snd).er = (cfB P en ws dp (mR nx pa er)).snd.er /\ ([] : List (List D)) = [] /\ (cdC ws en (exR ws en (ByteArray.mk #[105, 102]) (mR nx pa er))).l.d.rows = (cfS P en ws dp (mR nx pa er)).c.l.d.rows /\ (cdC ws en (exR ws en (ByteArray.mk #[105, 102]) (mR nx pa er))).r.d.rows = (cfS P en ws dp (mR nx pa er)).c.r.d.rows /\ (blF P en ws dp (cdR ws en (exR ws en (ByteArray.mk #[105, 102]) (mR nx pa er)))).fst.rows = (cfS P en ws dp (mR nx pa er)).b.rows /\ (cfS P en ws dp (mR nx pa er)).el.rows = [] /\ ([] : List (List D)) = [])) (by kernel_rfl) ?_
    intro h hd hl hn
    have a0 := (ex_up en (t := kwF) (r := mR nx pa er) h (by decide)).1
    obtain ⟨_, _, _, _, a5, a6⟩ := cd_up en a0
    obtain ⟨b1, b2, b3, b4, b5⟩ := blF_up (hPa en ws) (dp := dp) a5
    have q1 := dp_q hd h hn (Int.lt_of_lt_of_le (ex_lt en hn) a6)
    have q2 := q1.1
    have q3 : left ws (cdR ws en (exR ws en kwF (mR nx pa er))) < m := by have := q1.2; omega
    have c1 := ac_up (t := kwL) b4 (by decide)
    have c2 := Int.le_trans b5 c1.2
    have c3 := c1.1
    have d1 := dq_le q2 c2
    have d2 := Nat.lt_of_le_of_lt (left_le (ws := ws) c2) q3
    obtain ⟨d3, d4, d5, d6, d7⟩ := blF_up (hPa en ws) (dp := dp) c1.1
    refine ⟨h, by decide, a0, a5, q2, q3, b4, by decide, fun hc => ?_, fun hc => ?_⟩
    · have e1 : cfB P en ws dp (mR nx pa er) = blF P en ws dp (acR ws kwL (cfA P en ws dp (mR nx pa er)).2) := if_pos hc
      simp only [cfS, e1]
      (repeat' (with_reducible apply And.intro)) <;> first | with_reducible rfl | exact True.intro | with_reducible assumption | decide | assumption | rfl
    · have e1 : cfB P en ws dp (mR nx pa er) = (.l [], acR ws kwL (cfA P en ws dp (mR nx pa er)).2) := if_neg (by rw [show acB ws (cfA P en ws dp (mR nx pa er)).2.nx kwL = false from hc]; decide)
      simp only [cfS, e1]
      (repeat' (with_reducible apply And.intro)) <;> first | with_reducible rfl | exact True.intro | with_reducible assumption | decide | assumption | rfl
  · trivial
noncomputable def lopS (P : PB) (m : Nat) : List Dat -> Option (Eff × List Seg) := fun ds => match ds with
  | [.d ws, .i nx, .i en, .i pa, .i er, .i dp] => some ({ val := .one (.agg [.c (.int .i64 (.sym ((lpS P en ws dp (mR nx pa er))).k)), .c (.raw (.string ((lpS P en ws dp (mR nx pa er))).nm)), .c (.raw (.string ((lpS P en ws dp (mR nx pa er))).tg)), .c (.int .i64 (.sym (((lpS P en ws dp (mR nx pa er))).e).k)), .c (.int .i64 (.sym (((lpS P en ws dp (mR nx pa er))).e).n)), .c (.raw (.string (((lpS P en ws dp (mR nx pa er))).e).s)), .c (.osl 90 0 (.lit 0) (.sym (((lpS P en ws dp (mR nx pa er))).e).d.len)), .c (.int .i64 (.sym ((lpS P en ws dp (mR nx pa er))).c.op)), .c (.int .i64 (.sym (((lpS P en ws dp (mR nx pa er))).c.l).k)), .c (.int .i64 (.sym (((lpS P en ws dp (mR nx pa er))).c.l).n)), .c (.raw (.string (((lpS P en ws dp (mR nx pa er))).c.l).s)), .c (.osl 90 1 (.lit 0) (.sym (((lpS P en ws dp (mR nx pa er))).c.l).d.len)), .c (.int .i64 (.sym (((lpS P en ws dp (mR nx pa er))).c.r).k)), .c (.int .i64 (.sym (((lpS P en ws dp (mR nx pa er))).c.r).n)), .c (.raw (.string (((lpS P en ws dp (mR nx pa er))).c.r).s)), .c (.osl 90 2 (.lit 0) (.sym (((lpS P en ws dp (mR nx pa er))).c.r).d.len)), .c (.osl 95 3 (.lit 0) (.sym ((lpS P en ws dp (mR nx pa er))).b.len)), .c (.osl 95 4 (.lit 0) (.sym ((lpS P en ws dp (mR nx pa er))).el.len)), .c (.osl 135 5 (.lit 0) (.sym ((lpS P en ws dp (mR nx pa er))).ar.len))]), vc := [rdOK ws nx, dpOK ws (mR nx pa er) dp, left ws (mR nx pa er) < m + 1, (mR nx pa er).nx < ws.len], nw := [(0, .orow 90 ((lpS P en ws dp (mR nx pa er))).e.d), (1, .orow 90 ((lpS P en ws dp (mR nx pa er))).c.l.d), (2, .orow 90 ((lpS P en ws dp (mR nx pa er))).c.r.d), (3, .orow 95 ((lpS P en ws dp (mR nx pa er))).b), (4, .orow 95 ((lpS P en ws dp (mR nx pa er))).el), (5, .orow 135 ((lpS P en ws dp (mR nx pa er))).ar)] }, [.c (.rows 115 ws), .c (.int .i64 (.sym ((((lpA P en ws dp (mR nx pa er)).2)).nx))), .c (.int .i64 (.sym en)), .c (.int .i64 (.sym ((((lpA P en ws dp (mR nx pa er)).2)).pa))), .c (.int .i64 (.sym ((((lpA P en ws dp (mR nx pa er)).2)).er)))])
  | _ => none
noncomputable def lopC (P : PB) (m : Nat) : Con := conM 64 [.c (.rows 115), .c (.int .i64), .c (.int .i64), .c (.int .i64), .c (.int .i64)] [.sc (.int .i64)] (lopS P m)
theorem lop_ok {P : PB} {m : Nat} (hP : ConOK Try.prog 72 (stmC P m)) (hPa : ∀ en ws dp, PbOK ws (P en ws dp)) : ConOK Try.prog 86 (lopC P m) := by
  refine fn_obM tt_ok mixed Try.func86 rfl (fun _ _ => by kernel_rfl) (A := fun ds => ⟨fun _ => Cons.of [(98, (blkC P m)), (97, cndC), (71, expC)], fun _ => none, fun _ => none⟩) (fun _ _ => (cons_cons (blk_ok hP hPa) (cons_cons cnd_ok (cons_cons exp_ok cons_nil)))) (by kernel_rfl) ?_
  intro ds
  unfold lopS
  split
  · rename_i ws nx en pa er dp
    refine kmp (q := rdOK ws nx -> dpOK ws (mR nx pa er) dp -> left ws (mR nx pa er) < m + 1 -> (mR nx pa er).nx < (↑ws.len : Int) -> rdOK ws nx /\ 0 < (ByteArray.mk #[119, 104, 105, 108, 101]).size /\ rdOK ws (exR ws en (ByteArray.mk #[119, 104, 105, 108, 101]) (mR nx pa er)).nx /\ rdOK ws (cdR ws en (exR ws en (ByteArray.mk #[119, 104, 105, 108, 101]) (mR nx pa er))).nx /\ dqOK ws (cdR ws en (exR ws en (ByteArray.mk #[119, 104, 105, 108, 101]) (mR nx pa er))) dp /\ left ws (cdR ws en (exR ws en (ByteArray.mk #[119, 104, 105, 108, 101]) (mR nx pa er))) < m /\ (3 : Int) = (lpS P en ws dp (mR nx pa er)).k /\ Value.string ByteArray.empty = Value.string (lpS P en ws dp (mR nx pa er)).nm /\ Value.string ByteArray.empty = Value.string (lpS P en ws dp (mR nx pa er)).tg /\ (0 : Int) = (lpS P en ws dp (mR nx pa er)).e.k /\ (0 : Int) = (lpS P en ws dp (mR nx pa er)).e.n /\ Value.string ByteArray.empty = Value.string (lpS P en ws dp (mR nx pa er)).e.s /\ (lpS P en ws dp (mR nx pa er)).e.d.len = 0 /\ (cdC ws en (exR ws en (ByteArray.mk #[119, 104, 105, 108, 101]) (mR nx pa er))).op = (lpS P en ws dp (mR nx pa er)).c.op /\ (cdC ws en (exR ws en (ByteArray.mk #[119, 104, 105, 108, 101]) (mR nx pa er))).l.k = (lpS P en ws dp (mR nx pa er)).c.l.k /\ (cdC ws en (exR ws en (ByteArray.mk #[119, 104, 105, 108, 101]) (mR nx pa er))).l.n = (lpS P en ws dp (mR nx pa er)).c.l.n /\ Value.string (cdC ws en (exR ws en (ByteArray.mk #[119, 104, 105, 108, 101]) (mR nx pa er))).l.s = Value.string (lpS P en ws dp (mR nx pa er)).c.l.s /\ (cdC ws en (exR ws en (ByteArray.mk #[119, 104, 105, 108, 101]) (mR nx pa er))).l.d.len = (lpS P en ws dp (mR nx pa er)).c.l.d.len /\ (cdC ws en (exR ws en (ByteArray.mk #[119, 104, 105, 108, 101]) (mR nx pa er))).r.k = (lpS P en ws dp (mR nx pa er)).c.r.k /\ (cdC ws en (exR ws en (ByteArray.mk #[119, 104, 105, 108, 101]) (mR nx pa er))).r.n = (lpS P en ws dp (mR nx pa er)).c.r.n /\ Value.string (cdC ws en (exR ws en (ByteArray.mk #[119, 104, 105, 108, 101]) (mR nx pa er))).r.s = Value.string (lpS P en ws dp (mR nx pa er)).c.r.s /\ (cdC ws en (exR ws en (ByteArray.mk #[119, 104, 105, 108, 101]) (mR nx pa er))).r.d.len = (lpS P en ws dp (mR nx pa er)).c.r.d.len /\ (blF P en ws dp (cdR ws en (exR ws en (ByteArray.mk #[119, 104, 105, 108, 101]) (mR nx pa er)))).fst.len = (lpS P en ws dp (mR nx pa er)).b.len /\ (lpS P en ws dp (mR nx pa er)).el.len = 0 /\ (lpS P en ws dp (mR nx pa er)).ar.len = 0 /\ ws.rows = ws.rows /\ (blF P en ws dp (cdR ws en (exR ws en { data := #[(119 : UInt8), (104 : UInt8), (105 : UInt8), (108 : UInt8), (101 : UInt8)] } (mR nx pa er)))).snd.nx = (lpA P en ws dp (mR nx pa er)).snd.nx /\ en = en /\ (blF P en ws dp (cdR ws en (exR ws en { data := #[(119 : UInt8), (104 : UInt8), (105 : UInt8), (108 : UInt8), (101 : UInt8)] } (mR nx pa er)))).snd.pa = (lpA P en ws dp (mR nx pa er)).snd.pa /\ (blF P en ws dp (cdR ws en (exR ws en { data := #[(119 : UInt8), (104 : UInt8), (105 : UInt8), (108 : UInt8), (101 : UInt8)] } (mR nx pa er)))).snd.er = (lpA P en ws dp (mR nx pa er)).snd.er /\ ([] : List (List D)) = [] /\ (cdC ws en (exR ws en { data := #[(119 : UInt8), (104 : UInt8), (105 : UInt8), (108 : UInt8), (101 : UInt8)] } (mR nx pa er))).l.d.rows = (lpS P en ws dp (mR nx pa er)).c.l.d.rows /\ (cdC ws en (exR ws en { data := #[(119 : UInt8), (104 : UInt8), (105 : UInt8), (108 : UInt8), (101 : UInt8)] } (mR nx pa er))).r.d.rows = (lpS P en ws dp (mR nx pa er)).c.r.d.rows /\ (blF P en ws dp (cdR ws en (exR ws en { data := #[(119 : UInt8), (104 : UInt8), (105 : UInt8), (108 : UInt8), (101 : UInt8)] } (mR nx pa er)))).fst.rows = (lpS P en ws dp (mR nx pa er)).b.rows /\ ([] : List (List D)) = [] /\ ([] : List (List D)) = []) (by kernel_rfl) ?_
    intro h hd hl hn
    have a0 := (ex_up en (t := kwW) (r := mR nx pa er) h (by decide)).1
    obtain ⟨_, _, _, _, a5, a6⟩ := cd_up en a0
    obtain ⟨b1, b2, b3, b4, b5⟩ := blF_up (hPa en ws) (dp := dp) a5
    have q1 := dp_q hd h hn (Int.lt_of_lt_of_le (ex_lt en hn) a6)
    have q2 := q1.1
    have q3 : left ws (cdR ws en (exR ws en kwW (mR nx pa er))) < m := by have := q1.2; omega
    (repeat' (with_reducible apply And.intro)) <;> first | with_reducible rfl | exact True.intro | with_reducible assumption | decide | assumption | rfl
  · trivial
noncomputable def armS (P : PB) (m : Nat) : List Dat -> Option (Eff × List Seg) := fun ds => match ds with
  | [.d ws, .i nx, .i en, .i pa, .i er, .i dp] => some ({ val := .one (.agg [.c (.raw (.string (amS P en ws dp (mR nx pa er)).tg)), .c (.raw (.string (amS P en ws dp (mR nx pa er)).vr)), .c (.osl 95 0 (.lit 0) (.sym (amS P en ws dp (mR nx pa er)).b.len))]), vc := [rdOK ws nx, dqOK ws (mR nx pa er) dp, left ws (mR nx pa er) < m], nw := [(0, .orow 95 ((amS P en ws dp (mR nx pa er)).b))] }, [.c (.rows 115 ws), .c (.int .i64 (.sym ((((amA P en ws dp (mR nx pa er)).2)).nx))), .c (.int .i64 (.sym en)), .c (.int .i64 (.sym ((((amA P en ws dp (mR nx pa er)).2)).pa))), .c (.int .i64 (.sym ((((amA P en ws dp (mR nx pa er)).2)).er)))])
  | _ => none
noncomputable def armC (P : PB) (m : Nat) : Con := conM 64 [.c (.rows 115), .c (.int .i64), .c (.int .i64), .c (.int .i64), .c (.int .i64)] [.sc (.int .i64)] (armS P m)
theorem arm_ok {P : PB} {m : Nat} (hP : ConOK Try.prog 72 (stmC P m)) (hPa : ∀ en ws dp, PbOK ws (P en ws dp)) : ConOK Try.prog 100 (armC P m) := by
  refine fn_obM tt_ok mixed Try.func100 rfl (fun _ _ => by kernel_rfl) (A := fun ds => ⟨fun _ => Cons.of [(98, (blkC P m)), (68, namC), (71, expC)], fun _ => none, fun _ => none⟩) (fun _ _ => (cons_cons (blk_ok hP hPa) (cons_cons nam_ok (cons_cons exp_ok cons_nil)))) (by kernel_rfl) ?_
  intro ds
  unfold armS
  split
  · rename_i ws nx en pa er dp
    refine kmp (q := rdOK ws nx -> dqOK ws (mR nx pa er) dp -> left ws (mR nx pa er) < m -> rdOK ws nx /\ rdOK ws (nmR ws en (mR nx pa er)).nx /\ 0 < (ByteArray.mk #[40]).size /\ rdOK ws (exR ws en (ByteArray.mk #[40]) (nmR ws en (mR nx pa er))).nx /\ rdOK ws (nmR ws en (exR ws en (ByteArray.mk #[40]) (nmR ws en (mR nx pa er)))).nx /\ 0 < (ByteArray.mk #[41]).size /\ rdOK ws (exR ws en (ByteArray.mk #[41]) (nmR ws en (exR ws en (ByteArray.mk #[40]) (nmR ws en (mR nx pa er))))).nx /\ dqOK ws (exR ws en (ByteArray.mk #[41]) (nmR ws en (exR ws en (ByteArray.mk #[40]) (nmR ws en (mR nx pa er))))) dp /\ left ws (exR ws en (ByteArray.mk #[41]) (nmR ws en (exR ws en (ByteArray.mk #[40]) (nmR ws en (mR nx pa er))))) < m /\ Value.string (nmS ws (mR nx pa er)) = Value.string (amS P en ws dp (mR nx pa er)).tg /\ Value.string (nmS ws (exR ws en (ByteArray.mk #[40]) (nmR ws en (mR nx pa er)))) = Value.string (amS P en ws dp (mR nx pa er)).vr /\ (blF P en ws dp (exR ws en (ByteArray.mk #[41]) (nmR ws en (exR ws en (ByteArray.mk #[40]) (nmR ws en (mR nx pa er)))))).fst.len = (amS P en ws dp (mR nx pa er)).b.len /\ ws.rows = ws.rows /\ (blF P en ws dp (exR ws en (ByteArray.mk #[41]) (nmR ws en (exR ws en (ByteArray.mk #[40]) (nmR ws en (mR nx pa er)))))).snd.nx = (amA P en ws dp (mR nx pa er)).snd.nx /\ en = en /\ (blF P en ws dp (exR ws en (ByteArray.mk #[41]) (nmR ws en (exR ws en (ByteArray.mk #[40]) (nmR ws en (mR nx pa er)))))).snd.pa = (amA P en ws dp (mR nx pa er)).snd.pa /\ (blF P en ws dp (exR ws en (ByteArray.mk #[41]) (nmR ws en (exR ws en (ByteArray.mk #[40]) (nmR ws en (mR nx pa er)))))).snd.er = (amA P en ws dp (mR nx pa er)).snd.er /\ (blF P en ws dp (exR ws en (ByteArray.mk #[41]) (nmR ws en (exR ws en (ByteArray.mk #[40]) (nmR ws en (mR nx pa er)))))).fst.rows = (amS P en ws dp (mR nx pa er)).b.rows) (by kernel_rfl) ?_
    intro h hd hl
    have a0 := nm_up en (r := mR nx pa er) h
    have a1 := ex_up en (t := opB) a0.1 (by decide)
    have a2 := nm_up en a1.1
    have a3 := ex_up en (t := clB) a2.1 (by decide)
    have a4 := Int.le_trans a0.2 (Int.le_trans a1.2 (Int.le_trans a2.2 a3.2))
    have a5 := a0.1
    have a6 := a1.1
    have a7 := a2.1
    have a8 := a3.1
    have d1 := dq_le hd a4
    have d2 := Nat.lt_of_le_of_lt (left_le (ws := ws) a4) hl
    (repeat' (with_reducible apply And.intro)) <;> first | with_reducible rfl | exact True.intro | with_reducible assumption | decide | assumption | rfl
  · trivial
end Go.Proofs.Ytbhbjhejkamlnaa.Sx.Z
namespace Go.Proofs.Ytbhbjhejkamlnaa.Sx
def cellIdP (s : St) (t j : Nat) : Nat := match look s.hp (idOf s t) with | some (.own _ l) => (match l[j]? with | some (.c (.osl _ id _ _)) => id | _ => 0) | _ => 0
end Go.Proofs.Ytbhbjhejkamlnaa.Sx
namespace Go.Proofs.Ytbhbjhejkamlnaa.Sx.Z
open Go.RowKit
def seqL (go : Rd -> Bool) (F : Rd -> List D × Rd) : Nat -> D -> Rd -> D × Rd
  | 0, d, r => (d, r)
  | n + 1, d, r => if go r = true then seqL go F n (.l (d.rows ++ [(F r).1])) (F r).2 else (d, r)
def seqA (go : Rd -> Bool) (F : Rd -> List D × Rd) (ws d : D) (r : Rd) : D × Rd := seqL go F (left ws r) d r
structure SqOK (ws : D) (go : Rd -> Bool) (F : Rd -> List D × Rd) : Prop where
  up : ∀ r, rdOK ws r.nx -> go r = true -> rdOK ws (F r).2.nx /\ r.nx < (F r).2.nx
theorem lt_left {ws : D} {r q : Rd} (h : rdOK ws q.nx) (h0 : rdOK ws r.nx) (hl : r.nx < q.nx) : left ws q < left ws r := by
  obtain ⟨a, b, c⟩ := h
  have := h0.1
  unfold left; omega
theorem seqL_end {go : Rd -> Bool} {F : Rd -> List D × Rd} {d : D} {r : Rd} (h : go r = false) : ∀ n, seqL go F n d r = (d, r)
  | 0 => rfl
  | n + 1 => if_neg (by rw [h]; decide)
theorem seqL_fuel {ws : D} {go : Rd -> Bool} {F : Rd -> List D × Rd} (hF : SqOK ws go F) : ∀ (n : Nat) (d : D) (r : Rd), rdOK ws r.nx -> left ws r <= n -> seqL go F n d r = seqL go F (left ws r) d r := by
  intro n
  induction n using Nat.strongRecOn with
  | ind n ih =>
    intro d r h hl
    cases hg : go r with
    | false => rw [seqL_end hg, seqL_end hg]
    | true =>
      obtain ⟨u1, u2⟩ := hF.up r h hg
      have u3 := lt_left u1 h u2
      cases n with
      | zero => omega
      | succ k =>
        obtain ⟨j, hj⟩ : ∃ j, left ws r = j + 1 := ⟨left ws r - 1, by omega⟩
        rw [hj, seqL, if_pos hg, seqL, if_pos hg, ih k (by omega) _ _ u1 (by omega), ih j (by omega) _ _ u1 (by omega)]
theorem seq_end {ws : D} {go : Rd -> Bool} {F : Rd -> List D × Rd} {d : D} {r : Rd} (h : go r = false) : seqA go F ws d r = (d, r) := seqL_end h _
theorem seq_step {ws : D} {go : Rd -> Bool} {F : Rd -> List D × Rd} (hF : SqOK ws go F) {d : D} {r : Rd} (h : rdOK ws r.nx) (hg : go r = true) : seqA go F ws (.l (d.rows ++ [(F r).1])) (F r).2 = seqA go F ws d r := by
  obtain ⟨u1, u2⟩ := hF.up r h hg
  have u3 := lt_left u1 h u2
  obtain ⟨j, hj⟩ : ∃ j, left ws r = j + 1 := ⟨left ws r - 1, by omega⟩
  unfold seqA
  rw [hj, seqL, if_pos hg, seqL_fuel hF j _ _ u1 (by omega)]
theorem seqL_up {ws : D} {go : Rd -> Bool} {F : Rd -> List D × Rd} (hF : SqOK ws go F) : ∀ (n : Nat) (d : D) (r : Rd), rdOK ws r.nx -> rdOK ws (seqL go F n d r).2.nx /\ r.nx <= (seqL go F n d r).2.nx
  | 0, d, r, h => ⟨h, Int.le_refl _⟩
  | n + 1, d, r, h => by
    cases hg : go r with
    | false =>
      rw [seqL_end hg]
      exact ⟨h, Int.le_refl _⟩
    | true =>
      obtain ⟨u1, u2⟩ := hF.up r h hg
      have := seqL_up hF n (.l (d.rows ++ [(F r).1])) (F r).2 u1
      rw [seqL, if_pos hg]
      exact ⟨this.1, by omega⟩
theorem seq_up {ws : D} {go : Rd -> Bool} {F : Rd -> List D × Rd} (hF : SqOK ws go F) (d : D) {r : Rd} (h : rdOK ws r.nx) : rdOK ws (seqA go F ws d r).2.nx /\ r.nx <= (seqA go F ws d r).2.nx := seqL_up hF _ d r h
theorem ap_len (d : D) (x : List D) : (D.l (d.rows ++ [x])).len = d.len + 1 := by
  show (d.rows ++ [x]).length = d.rows.length + 1
  rw [List.length_append]; rfl
def amG (ws : D) (r : Rd) : Bool := decide (pkK ws r.nx = 1)
def amF (P : PB) (en : Int) (ws : D) (dp : Int) (r : Rd) : List D × Rd := ((amS P en ws dp r).row, (amA P en ws dp r).2)
def rvX (en : Int) (ws : D) (r : Rd) : Rd := exR ws en obB (nmR ws en (exR ws en kwR r))
def rvA (P : PB) (en : Int) (ws : D) (dp : Int) (r : Rd) : D × Rd := seqA (amG ws) (amF P en ws dp) ws (.l [(amS P en ws dp (rvX en ws r)).row]) (amA P en ws dp (rvX en ws r)).2
def rvS (P : PB) (en : Int) (ws : D) (dp : Int) (r : Rd) : St := ⟨5, nmS ws (exR ws en kwR r), ByteArray.empty, X00, C00, .l [], .l [], (rvA P en ws dp r).1⟩
def rvR (P : PB) (en : Int) (ws : D) (dp : Int) (r : Rd) : Rd := exR ws en cbB (rvA P en ws dp r).2
theorem am_up {P : PB} {ws : D} {en : Int} (hPa : ∀ dp, PbOK ws (P en ws dp)) {dp : Int} {r : Rd} (h : rdOK ws r.nx) : rdOK ws (amA P en ws dp r).2.nx /\ r.nx <= (amA P en ws dp r).2.nx := by
  have a0 := nm_up en h
  have a1 := ex_up en (t := opB) a0.1 (by decide)
  have a2 := nm_up en a1.1
  have a3 := ex_up en (t := clB) a2.1 (by decide)
  obtain ⟨b1, b2, b3, b4, b5⟩ := blF_up hPa (dp := dp) a3.1
  exact ⟨b4, Int.le_trans a0.2 (Int.le_trans a1.2 (Int.le_trans a2.2 (Int.le_trans a3.2 b5)))⟩
theorem am_sq {P : PB} {ws : D} {en : Int} (hPa : ∀ dp, PbOK ws (P en ws dp)) (dp : Int) : SqOK ws (amG ws) (amF P en ws dp) := ⟨fun r h hg => by
  have hk : pkK ws r.nx = 1 := of_decide_eq_true hg
  have hl := pk_lt (ws := ws) (nx := r.nx) (by rw [hk]; decide)
  have e : nmR ws en r = gx r := if_pos hk
  have a0 := nm_up en h
  have a1 := ex_up en (t := opB) a0.1 (by decide)
  have a2 := nm_up en a1.1
  have a3 := ex_up en (t := clB) a2.1 (by decide)
  obtain ⟨b1, b2, b3, b4, b5⟩ := blF_up hPa (dp := dp) a3.1
  have e2 : (nmR ws en r).nx = r.nx + 1 := by rw [e]; rfl
  have h9 : (nmR ws en r).nx <= (amA P en ws dp r).2.nx := Int.le_trans a1.2 (Int.le_trans a2.2 (Int.le_trans a3.2 b5))
  exact ⟨b4, by show r.nx < (amA P en ws dp r).2.nx; omega⟩⟩
theorem rv_up {P : PB} {ws : D} {en : Int} (hPa : ∀ dp, PbOK ws (P en ws dp)) {dp : Int} {r : Rd} (h : rdOK ws r.nx) : rdOK ws (exR ws en kwR r).nx /\ rdOK ws (nmR ws en (exR ws en kwR r)).nx /\ rdOK ws (rvX en ws r).nx /\ (exR ws en kwR r).nx <= (rvX en ws r).nx /\ rdOK ws (rvA P en ws dp r).2.nx /\ (rvX en ws r).nx <= (rvA P en ws dp r).2.nx /\ rdOK ws (rvR P en ws dp r).nx /\ (rvX en ws r).nx <= (rvR P en ws dp r).nx := by
  have a0 := ex_up en (t := kwR) h (by decide)
  have a1 := nm_up en a0.1
  have a2 := ex_up en (t := obB) a1.1 (by decide)
  have b := am_up hPa (dp := dp) a2.1
  have c := seq_up (am_sq hPa dp) (.l [(amS P en ws dp (rvX en ws r)).row]) b.1
  have d := ex_up en (t := cbB) c.1 (by decide)
  exact ⟨a0.1, a1.1, a2.1, Int.le_trans a1.2 a2.2, c.1, Int.le_trans b.2 c.2, d.1, Int.le_trans b.2 (Int.le_trans c.2 d.2)⟩
noncomputable def rcvS (P : PB) (m : Nat) : List Dat -> Option (Eff × List Seg) := fun ds => match ds with
  | [.d ws, .i nx, .i en, .i pa, .i er, .i dp] => some ({ val := .one (.agg [.c (.int .i64 (.sym ((rvS P en ws dp (mR nx pa er))).k)), .c (.raw (.string ((rvS P en ws dp (mR nx pa er))).nm)), .c (.raw (.string ((rvS P en ws dp (mR nx pa er))).tg)), .c (.int .i64 (.sym (((rvS P en ws dp (mR nx pa er))).e).k)), .c (.int .i64 (.sym (((rvS P en ws dp (mR nx pa er))).e).n)), .c (.raw (.string (((rvS P en ws dp (mR nx pa er))).e).s)), .c (.osl 90 0 (.lit 0) (.sym (((rvS P en ws dp (mR nx pa er))).e).d.len)), .c (.int .i64 (.sym ((rvS P en ws dp (mR nx pa er))).c.op)), .c (.int .i64 (.sym (((rvS P en ws dp (mR nx pa er))).c.l).k)), .c (.int .i64 (.sym (((rvS P en ws dp (mR nx pa er))).c.l).n)), .c (.raw (.string (((rvS P en ws dp (mR nx pa er))).c.l).s)), .c (.osl 90 1 (.lit 0) (.sym (((rvS P en ws dp (mR nx pa er))).c.l).d.len)), .c (.int .i64 (.sym (((rvS P en ws dp (mR nx pa er))).c.r).k)), .c (.int .i64 (.sym (((rvS P en ws dp (mR nx pa er))).c.r).n)), .c (.raw (.string (((rvS P en ws dp (mR nx pa er))).c.r).s)), .c (.osl 90 2 (.lit 0) (.sym (((rvS P en ws dp (mR nx pa er))).c.r).d.len)), .c (.osl 95 3 (.lit 0) (.sym ((rvS P en ws dp (mR nx pa er))).b.len)), .c (.osl 95 4 (.lit 0) (.sym ((rvS P en ws dp (mR nx pa er))).el.len)), .c (.osl 135 5 (.lit 0) (.sym ((rvS P en ws dp (mR nx pa er))).ar.len))]), vc := [rdOK ws nx, dpOK ws (mR nx pa er) dp, left ws (mR nx pa er) < m + 1, (mR nx pa er).nx < ws.len], nw := [(0, .orow 90 ((rvS P en ws dp (mR nx pa er))).e.d), (1, .orow 90 ((rvS P en ws dp (mR nx pa er))).c.l.d), (2, .orow 90 ((rvS P en ws dp (mR nx pa er))).c.r.d), (3, .orow 95 ((rvS P en ws dp (mR nx pa er))).b), (4, .orow 95 ((rvS P en ws dp (mR nx pa er))).el), (5, .orow 135 ((rvS P en ws dp (mR nx pa er))).ar)] }, [.c (.rows 115 ws), .c (.int .i64 (.sym (((rvR P en ws dp (mR nx pa er))).nx))), .c (.int .i64 (.sym en)), .c (.int .i64 (.sym (((rvR P en ws dp (mR nx pa er))).pa))), .c (.int .i64 (.sym (((rvR P en ws dp (mR nx pa er))).er)))])
  | _ => none
noncomputable def rcvC (P : PB) (m : Nat) : Con := conM 64 [.c (.rows 115), .c (.int .i64), .c (.int .i64), .c (.int .i64), .c (.int .i64)] [.sc (.int .i64)] (rcvS P m)
theorem rcv_ok {P : PB} {m : Nat} (hP : ConOK Try.prog 72 (stmC P m)) (hPa : ∀ en ws dp, PbOK ws (P en ws dp)) : ConOK Try.prog 88 (rcvC P m) := by
  refine fn_obM tt_ok mixed Try.func88 rfl (fun _ _ => by kernel_rfl) (A := fun ds => ⟨fun _ => Cons.of [(100, (armC P m)), (67, pekC), (68, namC), (71, expC)], fun k => match k, ds with | 5, [.d ws, .i nx, .i en, .i pa, .i er, .i dp] => some { ι := D × Rd, pre := fun _ q => rdOK ws q.2.nx /\ (seqA (amG ws) (amF P en ws dp) ws q.1 q.2 = rvA P en ws dp (mR nx pa er)) /\ q.1.len + left ws q.2 <= 1000001 /\ (rvX en ws (mR nx pa er)).nx <= q.2.nx, μ := fun q => left ws q.2, st := fun s q => famR s [] [0, 1, 4, 5] [(0, .own 64 ([.c (.rows 115 ws), .c (.int .i64 (.sym ((q.2).nx))), .c (.int .i64 (.sym en)), .c (.int .i64 (.sym ((q.2).pa))), .c (.int .i64 (.sym ((q.2).er)))])), (idOf s 5, .own 95 ([.c (.int .i64 (.sym 5)), .c (.raw (.string (nmS ws (exR ws en kwR (mR nx pa er))))), .c (.raw (.string ByteArray.empty)), .c (.int .i64 (.sym 0)), .c (.int .i64 (.sym 0)), .c (.raw (.string ByteArray.empty)), .c .nils, .c (.int .i64 (.sym 0)), .c (.int .i64 (.sym 0)), .c (.int .i64 (.sym 0)), .c (.raw (.string ByteArray.empty)), .c .nils, .c (.int .i64 (.sym 0)), .c (.int .i64 (.sym 0)), .c (.raw (.string ByteArray.empty)), .c .nils, .c .nils, .c .nils, .c (.osl 135 (cellIdP s 5 18) (.lit 0) (.sym (q.1.len)))])), (cellIdP s 5 18, .orow 135 (q.1))] [4] } | _, _ => none, fun _ => none⟩) (fun _ _ => (cons_cons (arm_ok hP hPa) (cons_cons pek_ok (cons_cons nam_ok (cons_cons exp_ok cons_nil))))) (by kernel_rfl) ?_
  intro ds
  unfold rcvS
  split
  · rename_i ws nx en pa er dp
    refine kmp (q := rdOK ws nx -> dpOK ws (mR nx pa er) dp -> left ws (mR nx pa er) < m + 1 -> (mR nx pa er).nx < (↑ws.len : Int) -> rdOK ws nx /\ 0 < kwR.size /\ rdOK ws (exR ws en kwR (mR nx pa er)).nx /\ rdOK ws (nmR ws en (exR ws en kwR (mR nx pa er))).nx /\ 0 < obB.size /\ rdOK ws (exR ws en obB (nmR ws en (exR ws en kwR (mR nx pa er)))).nx /\ dqOK ws (exR ws en obB (nmR ws en (exR ws en kwR (mR nx pa er)))) dp /\ left ws (exR ws en obB (nmR ws en (exR ws en kwR (mR nx pa er)))) < m /\ 0 + (amS P en ws dp (exR ws en obB (nmR ws en (exR ws en kwR (mR nx pa er))))).b.len <= (amS P en ws dp (exR ws en obB (nmR ws en (exR ws en kwR (mR nx pa er))))).b.len /\ ((0 : Nat) + ((D.l [[D.s (amS P en ws dp (exR ws en obB (nmR ws en (exR ws en kwR (mR nx pa er))))).tg, D.s (amS P en ws dp (exR ws en obB (nmR ws en (exR ws en kwR (mR nx pa er))))).vr, (amS P en ws dp (exR ws en obB (nmR ws en (exR ws en kwR (mR nx pa er))))).b.sub 0 ((0 : Nat) + (amS P en ws dp (exR ws en obB (nmR ws en (exR ws en kwR (mR nx pa er))))).b.len)]]).sub 0 ((0 : Nat) + (1 : Nat))).len) * 56 <= 140737488355328 /\ 0 + 1 <= (D.l [[D.s (amS P en ws dp (exR ws en obB (nmR ws en (exR ws en kwR (mR nx pa er))))).tg, D.s (amS P en ws dp (exR ws en obB (nmR ws en (exR ws en kwR (mR nx pa er))))).vr, (amS P en ws dp (exR ws en obB (nmR ws en (exR ws en kwR (mR nx pa er))))).b.sub 0 ((0 : Nat) + (amS P en ws dp (exR ws en obB (nmR ws en (exR ws en kwR (mR nx pa er))))).b.len)]]).len /\ (∃ (i : D × Rd), (rdOK ws i.snd.nx /\ seqA (amG ws) (amF P en ws dp) ws i.fst i.snd = rvA P en ws dp (mR nx pa er) /\ i.fst.len + left ws i.snd <= 1000001 /\ (rvX en ws (mR nx pa er)).nx <= i.snd.nx) /\ dp = dp /\ ws.rows = ws.rows /\ (amA P en ws dp (exR ws en obB (nmR ws en (exR ws en kwR (mR nx pa er))))).snd.nx = i.snd.nx /\ en = en /\ (amA P en ws dp (exR ws en obB (nmR ws en (exR ws en kwR (mR nx pa er))))).snd.pa = i.snd.pa /\ (amA P en ws dp (exR ws en obB (nmR ws en (exR ws en kwR (mR nx pa er))))).snd.er = i.snd.er /\ (5 : Int) = (5 : Int) /\ Value.string (nmS ws (exR ws en kwR (mR nx pa er))) = Value.string (nmS ws (exR ws en kwR (mR nx pa er))) /\ Value.string ByteArray.empty = Value.string ByteArray.empty /\ (0 : Int) = (0 : Int) /\ (0 : Int) = (0 : Int) /\ Value.string ByteArray.empty = Value.string ByteArray.empty /\ (0 : Int) = (0 : Int) /\ (0 : Int) = (0 : Int) /\ (0 : Int) = (0 : Int) /\ Value.string ByteArray.empty = Value.string ByteArray.empty /\ (0 : Int) = (0 : Int) /\ (0 : Int) = (0 : Int) /\ Value.string ByteArray.empty = Value.string ByteArray.empty /\ 1 = i.fst.len /\ [] ++ List.drop 0 (List.take ((0 : Nat) + (1 : Nat)) [[D.s (amS P en ws dp (exR ws en obB (nmR ws en (exR ws en kwR (mR nx pa er))))).tg, D.s (amS P en ws dp (exR ws en obB (nmR ws en (exR ws en kwR (mR nx pa er))))).vr, (amS P en ws dp (exR ws en obB (nmR ws en (exR ws en kwR (mR nx pa er))))).b.sub 0 ((0 : Nat) + (amS P en ws dp (exR ws en obB (nmR ws en (exR ws en kwR (mR nx pa er))))).b.len)]]) = i.fst.rows /\ (0 : Int) = (0 : Int) /\ Value.string ByteArray.empty = Value.string ByteArray.empty /\ Value.string ByteArray.empty = Value.string ByteArray.empty /\ (0 : Int) = (0 : Int) /\ (0 : Int) = (0 : Int) /\ Value.string ByteArray.empty = Value.string ByteArray.empty /\ (0 : Int) = (0 : Int) /\ (0 : Int) = (0 : Int) /\ (0 : Int) = (0 : Int) /\ Value.string ByteArray.empty = Value.string ByteArray.empty /\ (0 : Int) = (0 : Int) /\ (0 : Int) = (0 : Int) /\ Value.string ByteArray.empty = Value.string ByteArray.empty) /\ ∀ (i : D × Rd), rdOK ws i.snd.nx /\ seqA (amG ws) (amF P en ws dp) ws i.fst i.snd = rvA P en ws dp (mR nx pa er) /\ i.fst.len + left ws i.snd <= 1000001 /\ (rvX en ws (mR nx pa er)).nx <= i.snd.nx -> rdOK ws i.snd.nx /\ ((pkK ws i.snd.nx == (1 : Int)) = true -> rdOK ws i.snd.nx /\ dqOK ws i.snd dp /\ left ws i.snd < m /\ 0 + (amS P en ws dp i.snd).b.len <= (amS P en ws dp i.snd).b.len /\ i.fst.len = i.fst.len /\ (i.fst.len + ((D.l [[D.s (amS P en ws dp i.snd).tg, D.s (amS P en ws dp i.snd).vr, (amS P en ws dp i.snd).b.sub 0 ((0 : Nat) + (amS P en ws dp i.snd).b.len)]]).sub 0 ((0 : Nat) + (1 : Nat))).len) * 56 <= 140737488355328 /\ 0 + 1 <= (D.l [[D.s (amS P en ws dp i.snd).tg, D.s (amS P en ws dp i.snd).vr, (amS P en ws dp i.snd).b.sub 0 ((0 : Nat) + (amS P en ws dp i.snd).b.len)]]).len /\ ∃ (j : D × Rd), (rdOK ws j.snd.nx /\ seqA (amG ws) (amF P en ws dp) ws j.fst j.snd = rvA P en ws dp (mR nx pa er) /\ j.fst.len + left ws j.snd <= 1000001 /\ (rvX en ws (mR nx pa er)).nx <= j.snd.nx) /\ left ws j.snd < left ws i.snd /\ dp = dp /\ ws.rows = ws.rows /\ (amA P en ws dp i.snd).snd.nx = j.snd.nx /\ en = en /\ (amA P en ws dp i.snd).snd.pa = j.snd.pa /\ (amA P en ws dp i.snd).snd.er = j.snd.er /\ (5 : Int) = (5 : Int) /\ Value.string (nmS ws (exR ws en kwR (mR nx pa er))) = Value.string (nmS ws (exR ws en kwR (mR nx pa er))) /\ Value.string ByteArray.empty = Value.string ByteArray.empty /\ (0 : Int) = (0 : Int) /\ (0 : Int) = (0 : Int) /\ Value.string ByteArray.empty = Value.string ByteArray.empty /\ (0 : Int) = (0 : Int) /\ (0 : Int) = (0 : Int) /\ (0 : Int) = (0 : Int) /\ Value.string ByteArray.empty = Value.string ByteArray.empty /\ (0 : Int) = (0 : Int) /\ (0 : Int) = (0 : Int) /\ Value.string ByteArray.empty = Value.string ByteArray.empty /\ i.fst.len + ((D.l [[D.s (amS P en ws dp i.snd).tg, D.s (amS P en ws dp i.snd).vr, (amS P en ws dp i.snd).b.sub 0 ((0 : Nat) + (amS P en ws dp i.snd).b.len)]]).sub 0 ((0 : Nat) + (1 : Nat))).len = j.fst.len /\ i.fst.rows ++ List.drop 0 (List.take ((0 : Nat) + (1 : Nat)) [[D.s (amS P en ws dp i.snd).tg, D.s (amS P en ws dp i.snd).vr, (amS P en ws dp i.snd).b.sub 0 ((0 : Nat) + (amS P en ws dp i.snd).b.len)]]) = j.fst.rows /\ (0 : Int) = (0 : Int) /\ Value.string ByteArray.empty = Value.string ByteArray.empty /\ Value.string ByteArray.empty = Value.string ByteArray.empty /\ (0 : Int) = (0 : Int) /\ (0 : Int) = (0 : Int) /\ Value.string ByteArray.empty = Value.string ByteArray.empty /\ (0 : Int) = (0 : Int) /\ (0 : Int) = (0 : Int) /\ (0 : Int) = (0 : Int) /\ Value.string ByteArray.empty = Value.string ByteArray.empty /\ (0 : Int) = (0 : Int) /\ (0 : Int) = (0 : Int) /\ Value.string ByteArray.empty = Value.string ByteArray.empty) /\ ((pkK ws i.snd.nx == (1 : Int)) = false -> rdOK ws i.snd.nx /\ 0 < cbB.size /\ (5 : Int) = (rvS P en ws dp (mR nx pa er)).k /\ Value.string (nmS ws (exR ws en kwR (mR nx pa er))) = Value.string (rvS P en ws dp (mR nx pa er)).nm /\ Value.string ByteArray.empty = Value.string (rvS P en ws dp (mR nx pa er)).tg /\ (0 : Int) = (rvS P en ws dp (mR nx pa er)).e.k /\ (0 : Int) = (rvS P en ws dp (mR nx pa er)).e.n /\ Value.string ByteArray.empty = Value.string (rvS P en ws dp (mR nx pa er)).e.s /\ (rvS P en ws dp (mR nx pa er)).e.d.len = 0 /\ (0 : Int) = (rvS P en ws dp (mR nx pa er)).c.op /\ (0 : Int) = (rvS P en ws dp (mR nx pa er)).c.l.k /\ (0 : Int) = (rvS P en ws dp (mR nx pa er)).c.l.n /\ Value.string ByteArray.empty = Value.string (rvS P en ws dp (mR nx pa er)).c.l.s /\ (rvS P en ws dp (mR nx pa er)).c.l.d.len = 0 /\ (0 : Int) = (rvS P en ws dp (mR nx pa er)).c.r.k /\ (0 : Int) = (rvS P en ws dp (mR nx pa er)).c.r.n /\ Value.string ByteArray.empty = Value.string (rvS P en ws dp (mR nx pa er)).c.r.s /\ (rvS P en ws dp (mR nx pa er)).c.r.d.len = 0 /\ (rvS P en ws dp (mR nx pa er)).b.len = 0 /\ (rvS P en ws dp (mR nx pa er)).el.len = 0 /\ i.fst.len = (rvS P en ws dp (mR nx pa er)).ar.len /\ ws.rows = ws.rows /\ (exR ws en cbB i.snd).nx = (rvR P en ws dp (mR nx pa er)).nx /\ en = en /\ (exR ws en cbB i.snd).pa = (rvR P en ws dp (mR nx pa er)).pa /\ (exR ws en cbB i.snd).er = (rvR P en ws dp (mR nx pa er)).er /\ ([] : List (List D)) = [] /\ ([] : List (List D)) = [] /\ ([] : List (List D)) = [] /\ ([] : List (List D)) = [] /\ ([] : List (List D)) = [] /\ i.fst.rows = (rvS P en ws dp (mR nx pa er)).ar.rows)) (by kernel_rfl) ?_
    intro h hd hl hn
    obtain ⟨a0, a1, a2, a3, a4, a5, a6, a7⟩ := rv_up (hPa en ws) (dp := dp) (r := mR nx pa er) h
    have q1 := dp_q hd h hn (Int.lt_of_lt_of_le (ex_lt en hn) a3)
    have q2 := q1.1
    have q3 : left ws (rvX en ws (mR nx pa er)) < m := by have := q1.2; omega
    have b := am_up (hPa en ws) (dp := dp) a2
    have l0 := (lf_lt b.1).2
    refine ⟨h, by decide, a0, a1, by decide, a2, q2, q3, Nat.le_of_eq (Nat.zero_add _), (by show (0 + 1) * 56 <= 140737488355328; decide), Nat.le_refl 1, ⟨(.l [(amS P en ws dp (rvX en ws (mR nx pa er))).row], (amA P en ws dp (rvX en ws (mR nx pa er))).2), ⟨b.1, rfl, (by show 1 + left ws (amA P en ws dp (rvX en ws (mR nx pa er))).2 <= 1000001; omega), b.2⟩, ?_⟩, ?_⟩
    · simp only [subAll]
      (repeat' (with_reducible apply And.intro)) <;> first | with_reducible rfl | exact True.intro | with_reducible assumption | decide | assumption | rfl
    rintro q ⟨h1, h2, h3, h4⟩
    have l1 := left_le (ws := ws) h4
    refine ⟨h1, fun hc => ?_, fun hc => ?_⟩
    · have hk : pkK ws q.2.nx = 1 := eq_of_beq hc
      have hg : amG ws q.2 = true := decide_eq_true hk
      obtain ⟨u1, u2⟩ := (am_sq (hPa en ws) dp).up q.2 h1 hg
      have u3 := lt_left u1 h1 u2
      have hs := seq_step (am_sq (hPa en ws) dp) (d := q.1) h1 hg
      refine ⟨h1, dq_le q2 h4, by omega, Nat.le_of_eq (Nat.zero_add _), rfl, (by show (q.1.len + 1) * 56 <= 140737488355328; omega), Nat.le_refl 1, (.l (q.1.rows ++ [(amS P en ws dp q.2).row]), (amA P en ws dp q.2).2), ⟨u1, hs.trans h2, ?_, Int.le_trans h4 (Int.le_of_lt u2)⟩, u3, ?_⟩
      · have u4 : left ws (amA P en ws dp q.2).2 < left ws q.2 := u3
        show (D.l (q.1.rows ++ [(amS P en ws dp q.2).row])).len + left ws (amA P en ws dp q.2).2 <= 1000001
        rw [ap_len]; omega
      · simp only [subAll]
        (repeat' (with_reducible apply And.intro)) <;> first | with_reducible rfl | exact True.intro | exact (ap_len _ _).symm | rfl
    · have hk : pkK ws q.2.nx ≠ 1 := ne_of_beq_false hc
      have hg : amG ws q.2 = false := decide_eq_false hk
      have h2 : (q.1, q.2) = rvA P en ws dp (mR nx pa er) := (seq_end hg).symm.trans h2
      simp only [rvS, rvR, ← h2]
      (repeat' (with_reducible apply And.intro)) <;> first | with_reducible rfl | exact True.intro | with_reducible assumption | decide | assumption | rfl
  · trivial
end Go.Proofs.Ytbhbjhejkamlnaa.Sx.Z
namespace Go.Proofs.Ytbhbjhejkamlnaa.Sx
def famN (s : St) (sl : Slots) (ks : List Nat) (es : Heap) (hs : List Nat) : St := { tm := sl ++ keepS s.tm ks, hp := es ++ keepH s.hp (hs.map (idOf s)), nx := s.nx + 1 }
end Go.Proofs.Ytbhbjhejkamlnaa.Sx
namespace Go.Proofs.Ytbhbjhejkamlnaa.Sx.Z
open Go.RowKit
def asS (ws : D) (en : Int) (r : Rd) : St := ⟨1, nmS ws r, ByteArray.empty, (asE ws en r).1, C00, .l [], .l [], .l []⟩
def snS (ws : D) (en : Int) (r : Rd) : St := ⟨4, nmS ws (snN ws en r), nmS ws (snT ws en r), (snE ws en r).1, C00, .l [], .l [], .l []⟩
def atS (ws : D) (en : Int) (r : Rd) : St := ⟨6, ByteArray.empty, ByteArray.empty, X00, atC ws en r, .l [], .l [], .l []⟩
def inS (ws : D) (en : Int) (r : Rd) : St := ⟨7, nmS ws (exR ws en kwI r), ByteArray.empty, X00, C00, .l [], .l [], .l []⟩
def stF (P : PB) (en : Int) (ws : D) (dp : Int) (r : Rd) : St × Rd :=
  if acB ws r.nx kwF = true then (cfS P en ws dp r, (cfB P en ws dp r).2)
  else if acB ws r.nx kwW = true then (lpS P en ws dp r, (lpA P en ws dp r).2)
  else if acB ws r.nx kwS = true then (snS ws en r, snR ws en r)
  else if acB ws r.nx kwR = true then (rvS P en ws dp r, rvR P en ws dp r)
  else if acB ws r.nx kwA = true then (atS ws en r, atR ws en r)
  else if acB ws r.nx kwI = true then (inS ws en r, inR ws en r)
  else (asS ws en r, asR ws en r)
def stH (P : PB) (en : Int) (ws : D) (dp : Int) (r : Rd) : List D × Rd := ((stF P en ws dp r).1.row, (stF P en ws dp r).2)
def stG (ws : D) (r : Rd) : Bool := acB ws r.nx kwF || acB ws r.nx kwW || acB ws r.nx kwS || acB ws r.nx kwR || acB ws r.nx kwA || acB ws r.nx kwI || decide (pkK ws r.nx = 1)
def smA (P : PB) : PB := fun en ws dp r => seqA (stG ws) (stH P en ws dp) ws (.l []) r
theorem cf_up {P : PB} {ws : D} {en : Int} (hPa : ∀ dp, PbOK ws (P en ws dp)) {dp : Int} {r : Rd} (h : rdOK ws r.nx) : rdOK ws (cfB P en ws dp r).2.nx /\ (exR ws en kwF r).nx <= (cfB P en ws dp r).2.nx := by
  have a0 := (ex_up en (t := kwF) h (by decide)).1
  obtain ⟨_, _, _, _, a5, a6⟩ := cd_up en a0
  obtain ⟨b1, b2, b3, b4, b5⟩ := blF_up hPa (dp := dp) a5
  have c1 := ac_up (t := kwL) b4 (by decide)
  obtain ⟨d3, d4, d5, d6, d7⟩ := blF_up hPa (dp := dp) c1.1
  unfold cfB
  split
  · exact ⟨d6, Int.le_trans a6 (Int.le_trans b5 (Int.le_trans c1.2 d7))⟩
  · exact ⟨c1.1, Int.le_trans a6 (Int.le_trans b5 c1.2)⟩
theorem lp_up {P : PB} {ws : D} {en : Int} (hPa : ∀ dp, PbOK ws (P en ws dp)) {dp : Int} {r : Rd} (h : rdOK ws r.nx) : rdOK ws (lpA P en ws dp r).2.nx /\ (exR ws en kwW r).nx <= (lpA P en ws dp r).2.nx := by
  have a0 := (ex_up en (t := kwW) h (by decide)).1
  obtain ⟨_, _, _, _, a5, a6⟩ := cd_up en a0
  obtain ⟨b1, b2, b3, b4, b5⟩ := blF_up hPa (dp := dp) a5
  exact ⟨b4, Int.le_trans a6 b5⟩
theorem sn_up {ws : D} (en : Int) {r : Rd} (h : rdOK ws r.nx) : rdOK ws (snR ws en r).nx /\ (exR ws en kwS r).nx <= (snR ws en r).nx := by
  have a1 := ex_up en (t := kwS) h (by decide)
  have a2 := nm_up en a1.1
  have a3 := ex_up en (t := doB) a2.1 (by decide)
  have a4 := nm_up en a3.1
  have a5 := ex_up en (t := opB) a4.1 (by decide)
  have a6 := (smX_up en ws 0).up _ a5.1
  have a7 := ex_up en (t := clB) a6.2.1 (by decide)
  have a8 := ex_up en (t := seB) a7.1 (by decide)
  exact ⟨a8.1, Int.le_trans a2.2 (Int.le_trans a3.2 (Int.le_trans a4.2 (Int.le_trans a5.2 (Int.le_trans a6.1 (Int.le_trans a7.2 a8.2)))))⟩
theorem at_up {ws : D} (en : Int) {r : Rd} (h : rdOK ws r.nx) : rdOK ws (atR ws en r).nx /\ (exR ws en kwA r).nx <= (atR ws en r).nx := by
  have a1 := ex_up en (t := kwA) h (by decide)
  obtain ⟨_, _, _, _, a5, a6⟩ := cd_up en a1.1
  have a8 := ex_up en (t := seB) a5 (by decide)
  exact ⟨a8.1, Int.le_trans a6 a8.2⟩
theorem in_up {ws : D} (en : Int) {r : Rd} (h : rdOK ws r.nx) : rdOK ws (inR ws en r).nx /\ (exR ws en kwI r).nx <= (inR ws en r).nx := by
  have a1 := ex_up en (t := kwI) h (by decide)
  have a2 := nm_up en a1.1
  have a8 := ex_up en (t := seB) a2.1 (by decide)
  exact ⟨a8.1, Int.le_trans a2.2 a8.2⟩
theorem as_up {ws : D} (en : Int) {r : Rd} (h : rdOK ws r.nx) : rdOK ws (asR ws en r).nx /\ (nmR ws en r).nx <= (asR ws en r).nx := by
  have a2 := nm_up en h
  have a3 := ex_up en (t := eqB) a2.1 (by decide)
  have a6 := (smX_up en ws 0).up _ a3.1
  have a8 := ex_up en (t := seB) a6.2.1 (by decide)
  exact ⟨a8.1, Int.le_trans a3.2 (Int.le_trans a6.1 a8.2)⟩
theorem st_sq {P : PB} {ws : D} {en : Int} (hPa : ∀ dp, PbOK ws (P en ws dp)) (dp : Int) : SqOK ws (stG ws) (stH P en ws dp) := ⟨fun r h hg => by
  unfold stH stF
  by_cases k0 : acB ws r.nx kwF = true
  · simp only [if_pos k0]
    have u : rdOK ws ((cfB P en ws dp r).2).nx /\ (exR ws en kwF r).nx <= ((cfB P en ws dp r).2).nx := cf_up hPa h
    exact ⟨u.1, Int.lt_of_lt_of_le (ex_lt en (ac_lt (by decide) k0)) u.2⟩
  by_cases k1 : acB ws r.nx kwW = true
  · simp only [if_neg k0, if_pos k1]
    have u : rdOK ws ((lpA P en ws dp r).2).nx /\ (exR ws en kwW r).nx <= ((lpA P en ws dp r).2).nx := lp_up hPa h
    exact ⟨u.1, Int.lt_of_lt_of_le (ex_lt en (ac_lt (by decide) k1)) u.2⟩
  by_cases k2 : acB ws r.nx kwS = true
  · simp only [if_neg k0, if_neg k1, if_pos k2]
    have u : rdOK ws (snR ws en r).nx /\ (exR ws en kwS r).nx <= (snR ws en r).nx := sn_up en h
    exact ⟨u.1, Int.lt_of_lt_of_le (ex_lt en (ac_lt (by decide) k2)) u.2⟩
  by_cases k3 : acB ws r.nx kwR = true
  · simp only [if_neg k0, if_neg k1, if_neg k2, if_pos k3]
    have u : rdOK ws (rvR P en ws dp r).nx /\ (exR ws en kwR r).nx <= (rvR P en ws dp r).nx := ⟨(rv_up hPa h).2.2.2.2.2.2.1, Int.le_trans (rv_up hPa (dp := dp) h).2.2.2.1 (rv_up hPa h).2.2.2.2.2.2.2⟩
    exact ⟨u.1, Int.lt_of_lt_of_le (ex_lt en (ac_lt (by decide) k3)) u.2⟩
  by_cases k4 : acB ws r.nx kwA = true
  · simp only [if_neg k0, if_neg k1, if_neg k2, if_neg k3, if_pos k4]
    have u : rdOK ws (atR ws en r).nx /\ (exR ws en kwA r).nx <= (atR ws en r).nx := at_up en h
    exact ⟨u.1, Int.lt_of_lt_of_le (ex_lt en (ac_lt (by decide) k4)) u.2⟩
  by_cases k5 : acB ws r.nx kwI = true
  · simp only [if_neg k0, if_neg k1, if_neg k2, if_neg k3, if_neg k4, if_pos k5]
    have u : rdOK ws (inR ws en r).nx /\ (exR ws en kwI r).nx <= (inR ws en r).nx := in_up en h
    exact ⟨u.1, Int.lt_of_lt_of_le (ex_lt en (ac_lt (by decide) k5)) u.2⟩
  have hk : pkK ws r.nx = 1 := by
    simpa [stG, k0, k1, k2, k3, k4, k5] using hg
  simp only [if_neg k0, if_neg k1, if_neg k2, if_neg k3, if_neg k4, if_neg k5]
  have u := as_up en h
  have e : (nmR ws en r).nx = r.nx + 1 := by rw [show nmR ws en r = gx r from if_pos hk]; rfl
  exact ⟨u.1, by omega⟩⟩
theorem smA_up {P : PB} (hPa : ∀ en ws dp, PbOK ws (P en ws dp)) (en : Int) (ws : D) (dp : Int) : PbOK ws (smA P en ws dp) := ⟨fun r h => by
  have := seq_up (st_sq (hPa en ws) dp) (.l []) h
  exact ⟨this.2, this.1⟩⟩
def p1x0 (P : PB) (en : Int) (ws : D) (dp : Int) (i : D × Rd) : List D := [D.i (cfS P en ws dp i.snd).k, D.s (cfS P en ws dp i.snd).nm, D.s (cfS P en ws dp i.snd).tg, D.i (cfS P en ws dp i.snd).e.k, D.i (cfS P en ws dp i.snd).e.n, D.s (cfS P en ws dp i.snd).e.s, (cfS P en ws dp i.snd).e.d.sub 0 ((0 : Nat) + (cfS P en ws dp i.snd).e.d.len), D.i (cfS P en ws dp i.snd).c.op, D.i (cfS P en ws dp i.snd).c.l.k, D.i (cfS P en ws dp i.snd).c.l.n, D.s (cfS P en ws dp i.snd).c.l.s, (cfS P en ws dp i.snd).c.l.d.sub 0 ((0 : Nat) + (cfS P en ws dp i.snd).c.l.d.len), D.i (cfS P en ws dp i.snd).c.r.k, D.i (cfS P en ws dp i.snd).c.r.n, D.s (cfS P en ws dp i.snd).c.r.s, (cfS P en ws dp i.snd).c.r.d.sub 0 ((0 : Nat) + (cfS P en ws dp i.snd).c.r.d.len), (cfS P en ws dp i.snd).b.sub 0 ((0 : Nat) + (cfS P en ws dp i.snd).b.len), (cfS P en ws dp i.snd).el.sub 0 ((0 : Nat) + (cfS P en ws dp i.snd).el.len), (cfS P en ws dp i.snd).ar.sub 0 ((0 : Nat) + (cfS P en ws dp i.snd).ar.len)]
def p1x1 (P : PB) (en : Int) (ws : D) (dp : Int) (i : D × Rd) : List D := [D.i (lpS P en ws dp i.snd).k, D.s (lpS P en ws dp i.snd).nm, D.s (lpS P en ws dp i.snd).tg, D.i (lpS P en ws dp i.snd).e.k, D.i (lpS P en ws dp i.snd).e.n, D.s (lpS P en ws dp i.snd).e.s, (lpS P en ws dp i.snd).e.d.sub 0 ((0 : Nat) + (lpS P en ws dp i.snd).e.d.len), D.i (lpS P en ws dp i.snd).c.op, D.i (lpS P en ws dp i.snd).c.l.k, D.i (lpS P en ws dp i.snd).c.l.n, D.s (lpS P en ws dp i.snd).c.l.s, (lpS P en ws dp i.snd).c.l.d.sub 0 ((0 : Nat) + (lpS P en ws dp i.snd).c.l.d.len), D.i (lpS P en ws dp i.snd).c.r.k, D.i (lpS P en ws dp i.snd).c.r.n, D.s (lpS P en ws dp i.snd).c.r.s, (lpS P en ws dp i.snd).c.r.d.sub 0 ((0 : Nat) + (lpS P en ws dp i.snd).c.r.d.len), (lpS P en ws dp i.snd).b.sub 0 ((0 : Nat) + (lpS P en ws dp i.snd).b.len), (lpS P en ws dp i.snd).el.sub 0 ((0 : Nat) + (lpS P en ws dp i.snd).el.len), (lpS P en ws dp i.snd).ar.sub 0 ((0 : Nat) + (lpS P en ws dp i.snd).ar.len)]
def p1x2 (P : PB) (en : Int) (ws : D) (dp : Int) (i : D × Rd) : List D := [D.i (rvS P en ws dp i.snd).k, D.s (rvS P en ws dp i.snd).nm, D.s (rvS P en ws dp i.snd).tg, D.i (rvS P en ws dp i.snd).e.k, D.i (rvS P en ws dp i.snd).e.n, D.s (rvS P en ws dp i.snd).e.s, (rvS P en ws dp i.snd).e.d.sub 0 ((0 : Nat) + (rvS P en ws dp i.snd).e.d.len), D.i (rvS P en ws dp i.snd).c.op, D.i (rvS P en ws dp i.snd).c.l.k, D.i (rvS P en ws dp i.snd).c.l.n, D.s (rvS P en ws dp i.snd).c.l.s, (rvS P en ws dp i.snd).c.l.d.sub 0 ((0 : Nat) + (rvS P en ws dp i.snd).c.l.d.len), D.i (rvS P en ws dp i.snd).c.r.k, D.i (rvS P en ws dp i.snd).c.r.n, D.s (rvS P en ws dp i.snd).c.r.s, (rvS P en ws dp i.snd).c.r.d.sub 0 ((0 : Nat) + (rvS P en ws dp i.snd).c.r.d.len), (rvS P en ws dp i.snd).b.sub 0 ((0 : Nat) + (rvS P en ws dp i.snd).b.len), (rvS P en ws dp i.snd).el.sub 0 ((0 : Nat) + (rvS P en ws dp i.snd).el.len), (rvS P en ws dp i.snd).ar.sub 0 ((0 : Nat) + (rvS P en ws dp i.snd).ar.len)]
def p1x3 (en : Int) (ws : D) (i : D × Rd) : List D := [D.i (6 : Int), D.s ByteArray.empty, D.s ByteArray.empty, D.i (0 : Int), D.i (0 : Int), D.s ByteArray.empty, D.l [], D.i (atC ws en i.snd).op, D.i (atC ws en i.snd).l.k, D.i (atC ws en i.snd).l.n, D.s (atC ws en i.snd).l.s, (atC ws en i.snd).l.d.sub 0 ((0 : Nat) + (atC ws en i.snd).l.d.len), D.i (atC ws en i.snd).r.k, D.i (atC ws en i.snd).r.n, D.s (atC ws en i.snd).r.s, (atC ws en i.snd).r.d.sub 0 ((0 : Nat) + (atC ws en i.snd).r.d.len), D.l [], D.l [], D.l []]
def p1x4 (en : Int) (ws : D) (i : D × Rd) : List D := [D.i (4 : Int), D.s (nmS ws (snN ws en i.snd)), D.s (nmS ws (snT ws en i.snd)), D.i (snE ws en i.snd).fst.k, D.i (snE ws en i.snd).fst.n, D.s (snE ws en i.snd).fst.s, (snE ws en i.snd).fst.d.sub 0 ((0 : Nat) + (snE ws en i.snd).fst.d.len), D.i (0 : Int), D.i (0 : Int), D.i (0 : Int), D.s ByteArray.empty, D.l [], D.i (0 : Int), D.i (0 : Int), D.s ByteArray.empty, D.l [], D.l [], D.l [], D.l []]
def p1x5 (en : Int) (ws : D) (i : D × Rd) : List D := [D.i (1 : Int), D.s (nmS ws i.snd), D.s ByteArray.empty, D.i (asE ws en i.snd).fst.k, D.i (asE ws en i.snd).fst.n, D.s (asE ws en i.snd).fst.s, (asE ws en i.snd).fst.d.sub 0 ((0 : Nat) + (asE ws en i.snd).fst.d.len), D.i (0 : Int), D.i (0 : Int), D.i (0 : Int), D.s ByteArray.empty, D.l [], D.i (0 : Int), D.i (0 : Int), D.s ByteArray.empty, D.l [], D.l [], D.l [], D.l []]
def p1x6 (en : Int) (ws : D) (i : D × Rd) : List D := [D.i (7 : Int), D.s (nmS ws (exR ws en kwI i.snd)), D.s ByteArray.empty, D.i (0 : Int), D.i (0 : Int), D.s ByteArray.empty, D.l [], D.i (0 : Int), D.i (0 : Int), D.i (0 : Int), D.s ByteArray.empty, D.l [], D.i (0 : Int), D.i (0 : Int), D.s ByteArray.empty, D.l [], D.l [], D.l [], D.l []]
noncomputable def stnS (P : PB) (m : Nat) : List Dat -> Option (Eff × List Seg) := fun ds => match ds with
  | [.d ws, .i nx, .i en, .i pa, .i er, .i dp] => some ({ val := .one (.sc (.osl 95 (0) (.lit 0) (.sym ((smA P en ws dp (mR nx pa er)).1.len)))), vc := [rdOK ws nx, dpOK ws (mR nx pa er) dp, left ws (mR nx pa er) < m + 1], nw := [(0, .orow 95 ((smA P en ws dp (mR nx pa er)).1))] }, [.c (.rows 115 ws), .c (.int .i64 (.sym ((((smA P en ws dp (mR nx pa er)).2)).nx))), .c (.int .i64 (.sym en)), .c (.int .i64 (.sym ((((smA P en ws dp (mR nx pa er)).2)).pa))), .c (.int .i64 (.sym ((((smA P en ws dp (mR nx pa er)).2)).er)))])
  | _ => none
noncomputable def stnC (P : PB) (m : Nat) : Con := conM 64 [.c (.rows 115), .c (.int .i64), .c (.int .i64), .c (.int .i64), .c (.int .i64)] [.sc (.int .i64)] (stnS P m)
theorem stn_ok {P : PB} {m : Nat} (hP : ConOK Try.prog 72 (stmC P m)) (hPa : ∀ en ws dp, PbOK ws (P en ws dp)) : ConOK Try.prog 72 (stnC P m) := by
  refine fn_obM tt_ok mixed Try.func72 rfl (fun _ _ => by kernel_rfl) (A := fun ds => ⟨fun _ => Cons.of [(85, (choC P m)), (86, (lopC P m)), (88, (rcvC P m)), (87, sndC), (89, assC), (90, inpC), (91, asgC), (67, pekC)], fun k => match k, ds with | 2, [.d ws, .i nx, .i en, .i pa, .i er, .i dp] => some { ι := D × Rd, pre := fun _ q => rdOK ws q.2.nx /\ (seqA (stG ws) (stH P en ws dp) ws q.1 q.2 = smA P en ws dp (mR nx pa er)) /\ q.1.len + left ws q.2 <= 1000001 /\ nx <= q.2.nx, μ := fun q => left ws q.2, st := fun s q => famN s [(5, .one (.sc (.osl 95 (s.nx) (.lit 0) (.sym (q.1.len)))))] [0, 1] [(0, .own 64 ([.c (.rows 115 ws), .c (.int .i64 (.sym ((q.2).nx))), .c (.int .i64 (.sym en)), .c (.int .i64 (.sym ((q.2).pa))), .c (.int .i64 (.sym ((q.2).er)))])), (s.nx, .orow 95 (q.1))] [] } | _, _ => none, fun _ => none⟩) (fun _ _ => (cons_cons (cho_ok hP hPa) (cons_cons (lop_ok hP hPa) (cons_cons (rcv_ok hP hPa) (cons_cons snd_ok (cons_cons ass_ok (cons_cons inp_ok (cons_cons asg_ok (cons_cons pek_ok cons_nil))))))))) (by kernel_rfl) ?_
  intro ds
  unfold stnS
  split
  · rename_i ws nx en pa er dp
    refine kmp (q := rdOK ws nx -> dpOK ws (mR nx pa er) dp -> left ws (mR nx pa er) < m + 1 -> (∃ (i : D × Rd), (rdOK ws i.snd.nx /\ seqA (stG ws) (stH P en ws dp) ws i.fst i.snd = smA P en ws dp (mR nx pa er) /\ i.fst.len + left ws i.snd <= 1000001 /\ nx <= i.snd.nx) /\ i.fst.len = 0 /\ dp = dp /\ ws.rows = ws.rows /\ nx = i.snd.nx /\ en = en /\ pa = i.snd.pa /\ er = i.snd.er /\ i.fst.rows = []) /\ ∀ (i : D × Rd), rdOK ws i.snd.nx /\ seqA (stG ws) (stH P en ws dp) ws i.fst i.snd = smA P en ws dp (mR nx pa er) /\ i.fst.len + left ws i.snd <= 1000001 /\ nx <= i.snd.nx -> rdOK ws i.snd.nx /\ (((pkS ws i.snd.nx).toList == kwF.toList) = true -> rdOK ws i.snd.nx /\ dpOK ws i.snd dp /\ left ws i.snd < m + 1 /\ i.snd.nx < (↑ws.len : Int) /\ 0 + (cfS P en ws dp i.snd).e.d.len <= (cfS P en ws dp i.snd).e.d.len /\ 0 + (cfS P en ws dp i.snd).c.l.d.len <= (cfS P en ws dp i.snd).c.l.d.len /\ 0 + (cfS P en ws dp i.snd).c.r.d.len <= (cfS P en ws dp i.snd).c.r.d.len /\ 0 + (cfS P en ws dp i.snd).b.len <= (cfS P en ws dp i.snd).b.len /\ 0 + (cfS P en ws dp i.snd).el.len <= (cfS P en ws dp i.snd).el.len /\ 0 + (cfS P en ws dp i.snd).ar.len <= (cfS P en ws dp i.snd).ar.len /\ i.fst.len = i.fst.len /\ (i.fst.len + ((D.l [(p1x0 P en ws dp i)]).sub 0 ((0 : Nat) + (1 : Nat))).len) * 288 <= 140737488355328 /\ 0 + 1 <= (D.l [(p1x0 P en ws dp i)]).len /\ ∃ (j : D × Rd), (rdOK ws j.snd.nx /\ seqA (stG ws) (stH P en ws dp) ws j.fst j.snd = smA P en ws dp (mR nx pa er) /\ j.fst.len + left ws j.snd <= 1000001 /\ nx <= j.snd.nx) /\ left ws j.snd < left ws i.snd /\ i.fst.len + ((D.l [(p1x0 P en ws dp i)]).sub 0 ((0 : Nat) + (1 : Nat))).len = j.fst.len /\ dp = dp /\ ws.rows = ws.rows /\ (cfB P en ws dp i.snd).snd.nx = j.snd.nx /\ en = en /\ (cfB P en ws dp i.snd).snd.pa = j.snd.pa /\ (cfB P en ws dp i.snd).snd.er = j.snd.er /\ i.fst.rows ++ List.drop 0 (List.take ((0 : Nat) + (1 : Nat)) [(p1x0 P en ws dp i)]) = j.fst.rows) /\ (((pkS ws i.snd.nx).toList == kwF.toList) = false -> (((pkS ws i.snd.nx).toList == kwW.toList) = true -> rdOK ws i.snd.nx /\ dpOK ws i.snd dp /\ left ws i.snd < m + 1 /\ i.snd.nx < (↑ws.len : Int) /\ 0 + (lpS P en ws dp i.snd).e.d.len <= (lpS P en ws dp i.snd).e.d.len /\ 0 + (lpS P en ws dp i.snd).c.l.d.len <= (lpS P en ws dp i.snd).c.l.d.len /\ 0 + (lpS P en ws dp i.snd).c.r.d.len <= (lpS P en ws dp i.snd).c.r.d.len /\ 0 + (lpS P en ws dp i.snd).b.len <= (lpS P en ws dp i.snd).b.len /\ 0 + (lpS P en ws dp i.snd).el.len <= (lpS P en ws dp i.snd).el.len /\ 0 + (lpS P en ws dp i.snd).ar.len <= (lpS P en ws dp i.snd).ar.len /\ i.fst.len = i.fst.len /\ (i.fst.len + ((D.l [(p1x1 P en ws dp i)]).sub 0 ((0 : Nat) + (1 : Nat))).len) * 288 <= 140737488355328 /\ 0 + 1 <= (D.l [(p1x1 P en ws dp i)]).len /\ ∃ (j : D × Rd), (rdOK ws j.snd.nx /\ seqA (stG ws) (stH P en ws dp) ws j.fst j.snd = smA P en ws dp (mR nx pa er) /\ j.fst.len + left ws j.snd <= 1000001 /\ nx <= j.snd.nx) /\ left ws j.snd < left ws i.snd /\ i.fst.len + ((D.l [(p1x1 P en ws dp i)]).sub 0 ((0 : Nat) + (1 : Nat))).len = j.fst.len /\ dp = dp /\ ws.rows = ws.rows /\ (lpA P en ws dp i.snd).snd.nx = j.snd.nx /\ en = en /\ (lpA P en ws dp i.snd).snd.pa = j.snd.pa /\ (lpA P en ws dp i.snd).snd.er = j.snd.er /\ i.fst.rows ++ List.drop 0 (List.take ((0 : Nat) + (1 : Nat)) [(p1x1 P en ws dp i)]) = j.fst.rows) /\ (((pkS ws i.snd.nx).toList == kwW.toList) = false -> (((pkS ws i.snd.nx).toList == kwS.toList) = true -> rdOK ws i.snd.nx /\ 0 + (snE ws en i.snd).fst.d.len <= (snE ws en i.snd).fst.d.len /\ i.fst.len = i.fst.len /\ (i.fst.len + ((D.l [(p1x4 en ws i)]).sub 0 ((0 : Nat) + (1 : Nat))).len) * 288 <= 140737488355328 /\ 0 + 1 <= (D.l [(p1x4 en ws i)]).len /\ ∃ (j : D × Rd), (rdOK ws j.snd.nx /\ seqA (stG ws) (stH P en ws dp) ws j.fst j.snd = smA P en ws dp (mR nx pa er) /\ j.fst.len + left ws j.snd <= 1000001 /\ nx <= j.snd.nx) /\ left ws j.snd < left ws i.snd /\ i.fst.len + ((D.l [(p1x4 en ws i)]).sub 0 ((0 : Nat) + (1 : Nat))).len = j.fst.len /\ dp = dp /\ ws.rows = ws.rows /\ (snR ws en i.snd).nx = j.snd.nx /\ en = en /\ (snR ws en i.snd).pa = j.snd.pa /\ (snR ws en i.snd).er = j.snd.er /\ i.fst.rows ++ List.drop 0 (List.take ((0 : Nat) + (1 : Nat)) [(p1x4 en ws i)]) = j.fst.rows) /\ (((pkS ws i.snd.nx).toList == kwS.toList) = false -> (((pkS ws i.snd.nx).toList == kwR.toList) = true -> rdOK ws i.snd.nx /\ dpOK ws i.snd dp /\ left ws i.snd < m + 1 /\ i.snd.nx < (↑ws.len : Int) /\ 0 + (rvS P en ws dp i.snd).e.d.len <= (rvS P en ws dp i.snd).e.d.len /\ 0 + (rvS P en ws dp i.snd).c.l.d.len <= (rvS P en ws dp i.snd).c.l.d.len /\ 0 + (rvS P en ws dp i.snd).c.r.d.len <= (rvS P en ws dp i.snd).c.r.d.len /\ 0 + (rvS P en ws dp i.snd).b.len <= (rvS P en ws dp i.snd).b.len /\ 0 + (rvS P en ws dp i.snd).el.len <= (rvS P en ws dp i.snd).el.len /\ 0 + (rvS P en ws dp i.snd).ar.len <= (rvS P en ws dp i.snd).ar.len /\ i.fst.len = i.fst.len /\ (i.fst.len + ((D.l [(p1x2 P en ws dp i)]).sub 0 ((0 : Nat) + (1 : Nat))).len) * 288 <= 140737488355328 /\ 0 + 1 <= (D.l [(p1x2 P en ws dp i)]).len /\ ∃ (j : D × Rd), (rdOK ws j.snd.nx /\ seqA (stG ws) (stH P en ws dp) ws j.fst j.snd = smA P en ws dp (mR nx pa er) /\ j.fst.len + left ws j.snd <= 1000001 /\ nx <= j.snd.nx) /\ left ws j.snd < left ws i.snd /\ i.fst.len + ((D.l [(p1x2 P en ws dp i)]).sub 0 ((0 : Nat) + (1 : Nat))).len = j.fst.len /\ dp = dp /\ ws.rows = ws.rows /\ (rvR P en ws dp i.snd).nx = j.snd.nx /\ en = en /\ (rvR P en ws dp i.snd).pa = j.snd.pa /\ (rvR P en ws dp i.snd).er = j.snd.er /\ i.fst.rows ++ List.drop 0 (List.take ((0 : Nat) + (1 : Nat)) [(p1x2 P en ws dp i)]) = j.fst.rows) /\ (((pkS ws i.snd.nx).toList == kwR.toList) = false -> (((pkS ws i.snd.nx).toList == kwA.toList) = true -> rdOK ws i.snd.nx /\ 0 + (atC ws en i.snd).l.d.len <= (atC ws en i.snd).l.d.len /\ 0 + (atC ws en i.snd).r.d.len <= (atC ws en i.snd).r.d.len /\ i.fst.len = i.fst.len /\ (i.fst.len + ((D.l [(p1x3 en ws i)]).sub 0 ((0 : Nat) + (1 : Nat))).len) * 288 <= 140737488355328 /\ 0 + 1 <= (D.l [(p1x3 en ws i)]).len /\ ∃ (j : D × Rd), (rdOK ws j.snd.nx /\ seqA (stG ws) (stH P en ws dp) ws j.fst j.snd = smA P en ws dp (mR nx pa er) /\ j.fst.len + left ws j.snd <= 1000001 /\ nx <= j.snd.nx) /\ left ws j.snd < left ws i.snd /\ i.fst.len + ((D.l [(p1x3 en ws i)]).sub 0 ((0 : Nat) + (1 : Nat))).len = j.fst.len /\ dp = dp /\ ws.rows = ws.rows /\ (atR ws en i.snd).nx = j.snd.nx /\ en = en /\ (atR ws en i.snd).pa = j.snd.pa /\ (atR ws en i.snd).er = j.snd.er /\ i.fst.rows ++ List.drop 0 (List.take ((0 : Nat) + (1 : Nat)) [(p1x3 en ws i)]) = j.fst.rows) /\ (((pkS ws i.snd.nx).toList == kwA.toList) = false -> (((pkS ws i.snd.nx).toList == kwI.toList) = true -> rdOK ws i.snd.nx /\ i.fst.len = i.fst.len /\ (i.fst.len + ((D.l [(p1x6 en ws i)]).sub 0 ((0 : Nat) + (1 : Nat))).len) * 288 <= 140737488355328 /\ 0 + 1 <= (D.l [(p1x6 en ws i)]).len /\ ∃ (j : D × Rd), (rdOK ws j.snd.nx /\ seqA (stG ws) (stH P en ws dp) ws j.fst j.snd = smA P en ws dp (mR nx pa er) /\ j.fst.len + left ws j.snd <= 1000001 /\ nx <= j.snd.nx) /\ left ws j.snd < left ws i.snd /\ i.fst.len + ((D.l [(p1x6 en ws i)]).sub 0 ((0 : Nat) + (1 : Nat))).len = j.fst.len /\ dp = dp /\ ws.rows = ws.rows /\ (inR ws en i.snd).nx = j.snd.nx /\ en = en /\ (inR ws en i.snd).pa = j.snd.pa /\ (inR ws en i.snd).er = j.snd.er /\ i.fst.rows ++ List.drop 0 (List.take ((0 : Nat) + (1 : Nat)) [(p1x6 en ws i)]) = j.fst.rows) /\ (((pkS ws i.snd.nx).toList == kwI.toList) = false -> rdOK ws i.snd.nx /\ ((pkK ws i.snd.nx != (1 : Int)) = true -> i.fst.len = (smA P en ws dp (mR nx pa er)).fst.len /\ ws.rows = ws.rows /\ i.snd.nx = (smA P en ws dp (mR nx pa er)).snd.nx /\ en = en /\ i.snd.pa = (smA P en ws dp (mR nx pa er)).snd.pa /\ i.snd.er = (smA P en ws dp (mR nx pa er)).snd.er /\ i.fst.rows = (smA P en ws dp (mR nx pa er)).fst.rows) /\ ((pkK ws i.snd.nx != (1 : Int)) = false -> rdOK ws i.snd.nx /\ 0 + (asE ws en i.snd).fst.d.len <= (asE ws en i.snd).fst.d.len /\ i.fst.len = i.fst.len /\ (i.fst.len + ((D.l [(p1x5 en ws i)]).sub 0 ((0 : Nat) + (1 : Nat))).len) * 288 <= 140737488355328 /\ 0 + 1 <= (D.l [(p1x5 en ws i)]).len /\ ∃ (j : D × Rd), (rdOK ws j.snd.nx /\ seqA (stG ws) (stH P en ws dp) ws j.fst j.snd = smA P en ws dp (mR nx pa er) /\ j.fst.len + left ws j.snd <= 1000001 /\ nx <= j.snd.nx) /\ left ws j.snd < left ws i.snd /\ i.fst.len + ((D.l [(p1x5 en ws i)]).sub 0 ((0 : Nat) + (1 : Nat))).len = j.fst.len /\ dp = dp /\ ws.rows = ws.rows /\ (asR ws en i.snd).nx = j.snd.nx /\ en = en /\ (asR ws en i.snd).pa = j.snd.pa /\ (asR ws en i.snd).er = j.snd.er /\ i.fst.rows ++ List.drop 0 (List.take ((0 : Nat) + (1 : Nat)) [(p1x5 en ws i)]) = j.fst.rows)))))))) (by kernel_rfl) ?_
    intro h hd hl
    refine ⟨⟨(.l [], mR nx pa er), ⟨h, rfl, (by show 0 + left ws (mR nx pa er) <= 1000001; have := (lf_lt (r := mR nx pa er) h).2; omega), Int.le_refl _⟩, (by (repeat' (with_reducible apply And.intro)) <;> first | with_reducible rfl | exact True.intro | with_reducible assumption | decide | assumption | rfl)⟩, ?_⟩
    rintro q ⟨h1, h2, h3, h4⟩
    have l1 := left_le (ws := ws) (r := mR nx pa er) (q := q.2) h4
    have hd2 : dpOK ws q.2 dp := ⟨hd.1, by have := hd.2; omega⟩
    have lm : left ws q.2 < m + 1 := Nat.lt_of_le_of_lt l1 hl
    have z : ∀ n : Nat, 0 + n <= n := fun n => Nat.le_of_eq (Nat.zero_add n)
    have zb : (q.1.len + 1) * 288 <= 140737488355328 := by omega
    have fin : ∀ (x : St) (r' : Rd), stF P en ws dp q.2 = (x, r') -> stG ws q.2 = true -> (rdOK ws r'.nx /\ seqA (stG ws) (stH P en ws dp) ws (.l (q.1.rows ++ [x.row])) r' = smA P en ws dp (mR nx pa er) /\ (D.l (q.1.rows ++ [x.row])).len + left ws r' <= 1000001 /\ nx <= r'.nx) /\ left ws r' < left ws q.2 := by
      intro x r' e hg
      obtain ⟨u1, u2⟩ := (st_sq (hPa en ws) dp).up q.2 h1 hg
      have hs := seq_step (st_sq (hPa en ws) dp) (d := q.1) h1 hg
      have e2 : stH P en ws dp q.2 = (x.row, r') := by unfold stH; rw [e]
      rw [e2] at u1 u2 hs
      have u3 := lt_left u1 h1 u2
      exact ⟨⟨u1, hs.trans h2, (by rw [ap_len]; have u4 : left ws r' < left ws q.2 := u3; omega), Int.le_trans h4 (Int.le_of_lt u2)⟩, u3⟩
    refine ⟨h1, fun k0 => ?_, fun k0 => ?_⟩
    · have k0 : acB ws q.2.nx kwF = true := k0
      have hF : stF P en ws dp q.2 = (cfS P en ws dp q.2, (cfB P en ws dp q.2).2) := if_pos k0
      obtain ⟨f1, f2⟩ := fin _ _ hF (by simp only [stG, k0, Bool.true_or, Bool.or_true])
      refine ⟨h1, hd2, lm, ac_lt (by decide) k0, z _, z _, z _, z _, z _, z _, rfl, zb, Nat.le_refl 1, (.l (q.1.rows ++ [St.row (cfS P en ws dp q.2)]), (cfB P en ws dp q.2).2), f1, f2, ?_⟩
      simp only [p1x0, p1x1, p1x2, p1x3, p1x4, p1x5, p1x6, subAll]
      (repeat' (with_reducible apply And.intro)) <;> first | with_reducible rfl | exact True.intro | exact (ap_len _ _).symm | rfl
    have n0 : ¬ acB ws q.2.nx kwF = true := by rw [show acB ws q.2.nx kwF = false from k0]; decide
    refine ⟨fun k1 => ?_, fun k1 => ?_⟩
    · have k1 : acB ws q.2.nx kwW = true := k1
      have hF : stF P en ws dp q.2 = (lpS P en ws dp q.2, (lpA P en ws dp q.2).2) := (if_neg n0).trans (if_pos k1)
      obtain ⟨f1, f2⟩ := fin _ _ hF (by simp only [stG, k1, Bool.true_or, Bool.or_true])
      refine ⟨h1, hd2, lm, ac_lt (by decide) k1, z _, z _, z _, z _, z _, z _, rfl, zb, Nat.le_refl 1, (.l (q.1.rows ++ [St.row (lpS P en ws dp q.2)]), (lpA P en ws dp q.2).2), f1, f2, ?_⟩
      simp only [p1x0, p1x1, p1x2, p1x3, p1x4, p1x5, p1x6, subAll]
      (repeat' (with_reducible apply And.intro)) <;> first | with_reducible rfl | exact True.intro | exact (ap_len _ _).symm | rfl
    have n1 : ¬ acB ws q.2.nx kwW = true := by rw [show acB ws q.2.nx kwW = false from k1]; decide
    refine ⟨fun k2 => ?_, fun k2 => ?_⟩
    · have k2 : acB ws q.2.nx kwS = true := k2
      have hF : stF P en ws dp q.2 = (snS ws en q.2, snR ws en q.2) := (if_neg n0).trans ((if_neg n1).trans (if_pos k2))
      obtain ⟨f1, f2⟩ := fin _ _ hF (by simp only [stG, k2, Bool.true_or, Bool.or_true])
      refine ⟨h1, z _, rfl, zb, Nat.le_refl 1, (.l (q.1.rows ++ [St.row (snS ws en q.2)]), snR ws en q.2), f1, f2, ?_⟩
      simp only [p1x0, p1x1, p1x2, p1x3, p1x4, p1x5, p1x6, subAll]
      (repeat' (with_reducible apply And.intro)) <;> first | with_reducible rfl | exact True.intro | exact (ap_len _ _).symm | rfl
    have n2 : ¬ acB ws q.2.nx kwS = true := by rw [show acB ws q.2.nx kwS = false from k2]; decide
    refine ⟨fun k3 => ?_, fun k3 => ?_⟩
    · have k3 : acB ws q.2.nx kwR = true := k3
      have hF : stF P en ws dp q.2 = (rvS P en ws dp q.2, rvR P en ws dp q.2) := (if_neg n0).trans ((if_neg n1).trans ((if_neg n2).trans (if_pos k3)))
      obtain ⟨f1, f2⟩ := fin _ _ hF (by simp only [stG, k3, Bool.true_or, Bool.or_true])
      refine ⟨h1, hd2, lm, ac_lt (by decide) k3, z _, z _, z _, z _, z _, z _, rfl, zb, Nat.le_refl 1, (.l (q.1.rows ++ [St.row (rvS P en ws dp q.2)]), rvR P en ws dp q.2), f1, f2, ?_⟩
      simp only [p1x0, p1x1, p1x2, p1x3, p1x4, p1x5, p1x6, subAll]
      (repeat' (with_reducible apply And.intro)) <;> first | with_reducible rfl | exact True.intro | exact (ap_len _ _).symm | rfl
    have n3 : ¬ acB ws q.2.nx kwR = true := by rw [show acB ws q.2.nx kwR = false from k3]; decide
    refine ⟨fun k4 => ?_, fun k4 => ?_⟩
    · have k4 : acB ws q.2.nx kwA = true := k4
      have hF : stF P en ws dp q.2 = (atS ws en q.2, atR ws en q.2) := (if_neg n0).trans ((if_neg n1).trans ((if_neg n2).trans ((if_neg n3).trans (if_pos k4))))
      obtain ⟨f1, f2⟩ := fin _ _ hF (by simp only [stG, k4, Bool.true_or, Bool.or_true])
      refine ⟨h1, z _, z _, rfl, zb, Nat.le_refl 1, (.l (q.1.rows ++ [St.row (atS ws en q.2)]), atR ws en q.2), f1, f2, ?_⟩
      simp only [p1x0, p1x1, p1x2, p1x3, p1x4, p1x5, p1x6, subAll]
      (repeat' (with_reducible apply And.intro)) <;> first | with_reducible rfl | exact True.intro | exact (ap_len _ _).symm | rfl
    have n4 : ¬ acB ws q.2.nx kwA = true := by rw [show acB ws q.2.nx kwA = false from k4]; decide
    refine ⟨fun k5 => ?_, fun k5 => ?_⟩
    · have k5 : acB ws q.2.nx kwI = true := k5
      have hF : stF P en ws dp q.2 = (inS ws en q.2, inR ws en q.2) := (if_neg n0).trans ((if_neg n1).trans ((if_neg n2).trans ((if_neg n3).trans ((if_neg n4).trans (if_pos k5)))))
      obtain ⟨f1, f2⟩ := fin _ _ hF (by simp only [stG, k5, Bool.true_or, Bool.or_true])
      refine ⟨h1, rfl, zb, Nat.le_refl 1, (.l (q.1.rows ++ [St.row (inS ws en q.2)]), inR ws en q.2), f1, f2, ?_⟩
      simp only [p1x0, p1x1, p1x2, p1x3, p1x4, p1x5, p1x6, subAll]
      (repeat' (with_reducible apply And.intro)) <;> first | with_reducible rfl | exact True.intro | exact (ap_len _ _).symm | rfl
    have n5 : ¬ acB ws q.2.nx kwI = true := by rw [show acB ws q.2.nx kwI = false from k5]; decide
    refine ⟨h1, fun hc => ?_, fun hc => ?_⟩
    · have hk : pkK ws q.2.nx ≠ 1 := by simpa using hc
      have hg : stG ws q.2 = false := by simp only [stG, Bool.eq_false_iff.2 n0, Bool.eq_false_iff.2 n1, Bool.eq_false_iff.2 n2, Bool.eq_false_iff.2 n3, Bool.eq_false_iff.2 n4, Bool.eq_false_iff.2 n5, decide_eq_false hk, Bool.or_false]
      have h2 : (q.1, q.2) = smA P en ws dp (mR nx pa er) := (seq_end hg).symm.trans h2
      rw [← h2]
      (repeat' (with_reducible apply And.intro)) <;> first | with_reducible rfl | exact True.intro | with_reducible assumption | decide | assumption | rfl
    · have hk : pkK ws q.2.nx = 1 := by simpa using hc
      have hF : stF P en ws dp q.2 = (asS ws en q.2, asR ws en q.2) := (if_neg n0).trans ((if_neg n1).trans ((if_neg n2).trans ((if_neg n3).trans ((if_neg n4).trans (if_neg n5)))))
      obtain ⟨f1, f2⟩ := fin _ _ hF (by simp only [stG, decide_eq_true hk, Bool.or_true])
      refine ⟨h1, z _, rfl, zb, Nat.le_refl 1, (.l (q.1.rows ++ [St.row (asS ws en q.2)]), asR ws en q.2), f1, f2, ?_⟩
      simp only [p1x0, p1x1, p1x2, p1x3, p1x4, p1x5, p1x6, subAll]
      (repeat' (with_reducible apply And.intro)) <;> first | with_reducible rfl | exact True.intro | exact (ap_len _ _).symm | rfl
  · trivial
end Go.Proofs.Ytbhbjhejkamlnaa.Sx.Z
namespace Go.Proofs.Ytbhbjhejkamlnaa.Sx.Z
open Go.RowKit
def stR : Nat -> PB
  | 0 => fun _ _ _ r => (.l [], r)
  | m + 1 => smA (stR m)
theorem stR_up : ∀ (m : Nat) (en : Int) (ws : D) (dp : Int), PbOK ws (stR m en ws dp)
  | 0, _, _, _ => ⟨fun _ h => ⟨Int.le_refl _, h⟩⟩
  | m + 1, en, ws, dp => smA_up (stR_up m) en ws dp
theorem stm_zero {F : PB} : ConOK Try.prog 72 (stmC F 0) := by
  refine ⟨fun _ _ => by kernel_rfl, fun hp fr args e he hv => ?_, fun hp fr caps e h => by cases h⟩
  exfalso
  obtain ⟨ds, e1, sg, ps1, ps2, hs, hvc, _⟩ := conM_in he
  rw [hvc] at hv
  obtain ⟨_, hv⟩ := all_append.1 hv
  obtain ⟨_, hv⟩ := all_append.1 hv
  unfold stmS at hs
  split at hs
  · simp only [Option.some.injEq, Prod.mk.injEq] at hs
    obtain ⟨rfl, rfl⟩ := hs
    exact Nat.not_lt_zero _ hv.2.2.1
  · cases hs
theorem stm_all : ∀ m, ConOK Try.prog 72 (stmC (stR m) m)
  | 0 => stm_zero
  | m + 1 => stn_ok (P := stR m) (m := m) (stm_all m) (stR_up m)
def stX : PB := stR 1000001
theorem stX_ok : ConOK Try.prog 72 (stmC stX 1000001) := stm_all 1000001
theorem stX_up (en : Int) (ws : D) (dp : Int) : PbOK ws (stX en ws dp) := stR_up 1000001 en ws dp
attribute [irreducible] stX
def kwC : ByteArray := ⟨#[99, 104, 97, 110]⟩
def kwU : ByteArray := ⟨#[114, 117, 108, 101]⟩
def kwP : ByteArray := ⟨#[112, 114, 111, 99]⟩
def kwV : ByteArray := ⟨#[118, 97, 114]⟩
def coB : ByteArray := ⟨#[44]⟩
def kwO : ByteArray := ⟨#[102, 114, 111, 109]⟩
def kwT : ByteArray := ⟨#[116, 111]⟩
def kwB : ByteArray := ⟨#[98, 108, 111, 99, 107]⟩
def kwD : ByteArray := ⟨#[100, 114, 111, 112]⟩
def kwY : ByteArray := ⟨#[108, 111, 115, 115, 121]⟩
def acG (t : ByteArray) (ws : D) (r : Rd) : Bool := acB ws r.nx t
theorem ac_lt2 {ws : D} {t : ByteArray} {r : Rd} (ha : acB ws r.nx t = true) : r.nx < (acR ws t r).nx := by
  rw [acR_yes ha]
  exact Int.lt_succ _
def ckK (ws : D) (r : Rd) : Int := if acB ws r.nx kwB = true then 0 else if acB ws (acR ws kwB r).nx kwD = true then 1 else 2
def ckR (ws : D) (en : Int) (r : Rd) : Rd := if acB ws r.nx kwB = true then acR ws kwB r else if acB ws (acR ws kwB r).nx kwD = true then acR ws kwD (acR ws kwB r) else exR ws en kwY (acR ws kwD (acR ws kwB r))
theorem ck_up {ws : D} (en : Int) {r : Rd} (h : rdOK ws r.nx) : rdOK ws (acR ws kwB r).nx /\ rdOK ws (acR ws kwD (acR ws kwB r)).nx /\ rdOK ws (ckR ws en r).nx /\ r.nx <= (ckR ws en r).nx := by
  have a := ac_up (t := kwB) h (by decide)
  have b := ac_up (t := kwD) a.1 (by decide)
  have c := ex_up en (t := kwY) b.1 (by decide)
  refine ⟨a.1, b.1, ?_⟩
  unfold ckR
  split
  · exact a
  · split
    · exact ⟨b.1, Int.le_trans a.2 b.2⟩
    · exact ⟨c.1, Int.le_trans a.2 (Int.le_trans b.2 c.2)⟩
structure Ch where
  nm : ByteArray
  k : Int
  n : Int
  fr : ByteArray
  to : ByteArray
  tg : D
def Ch.row (c : Ch) : List D := [.s c.nm, .i c.k, .i c.n, .s c.fr, .s c.to, .l c.tg.rows]
def chA1 (ws : D) (en : Int) (r : Rd) : Rd := ckR ws en (nmR ws en r)
def chA2 (ws : D) (en : Int) (r : Rd) : Rd := exR ws en kwO (nuR ws en (chA1 ws en r))
def chA3 (ws : D) (en : Int) (r : Rd) : Rd := exR ws en kwT (nmR ws en (chA2 ws en r))
def chA4 (ws : D) (en : Int) (r : Rd) : Rd := exR ws en obB (nmR ws en (chA3 ws en r))
def tgF (ws : D) (en : Int) (r : Rd) : List D × Rd := ([.s (nmS ws (acR ws coB r))], nmR ws en (acR ws coB r))
def chT (ws : D) (en : Int) (r : Rd) : D × Rd := seqA (acG coB ws) (tgF ws en) ws (.l [[.s (nmS ws (chA4 ws en r))]]) (nmR ws en (chA4 ws en r))
def chZ (ws : D) (en : Int) (r : Rd) : Ch := ⟨nmS ws r, ckK ws (nmR ws en r), nuN ws (chA1 ws en r), nmS ws (chA2 ws en r), nmS ws (chA3 ws en r), (chT ws en r).1⟩
def chR (ws : D) (en : Int) (r : Rd) : Rd := exR ws en seB (exR ws en cbB (chT ws en r).2)
theorem tg_sq {ws : D} (en : Int) : SqOK ws (acG coB ws) (tgF ws en) := ⟨fun r h hg => by
  have a := ac_up (t := coB) h (by decide)
  have b := nm_up en a.1
  exact ⟨b.1, Int.lt_of_lt_of_le (ac_lt2 hg) b.2⟩⟩
theorem ch_up {ws : D} (en : Int) {r : Rd} (h : rdOK ws r.nx) : (rdOK ws (nmR ws en r).nx /\ rdOK ws (chA1 ws en r).nx /\ rdOK ws (nuR ws en (chA1 ws en r)).nx /\ rdOK ws (chA2 ws en r).nx /\ rdOK ws (nmR ws en (chA2 ws en r)).nx /\ rdOK ws (chA3 ws en r).nx /\ rdOK ws (nmR ws en (chA3 ws en r)).nx /\ rdOK ws (chA4 ws en r).nx /\ rdOK ws (nmR ws en (chA4 ws en r)).nx) /\ rdOK ws (chT ws en r).2.nx /\ rdOK ws (exR ws en cbB (chT ws en r).2).nx /\ rdOK ws (chR ws en r).nx /\ r.nx <= (chR ws en r).nx := by
  have a := nm_up en h
  have b := (ck_up en a.1).2.2
  have c := nu_up en b.1
  have d := ex_up en (t := kwO) c.1 (by decide)
  have e := nm_up en d.1
  have f := ex_up en (t := kwT) e.1 (by decide)
  have g := nm_up en f.1
  have i := ex_up en (t := obB) g.1 (by decide)
  have j := nm_up en i.1
  have k := seq_up (tg_sq en) (.l [[.s (nmS ws (chA4 ws en r))]]) j.1
  have l := ex_up en (t := cbB) k.1 (by decide)
  have m := ex_up en (t := seB) l.1 (by decide)
  exact ⟨⟨a.1, b.1, c.1, d.1, e.1, f.1, g.1, i.1, j.1⟩, k.1, l.1, m.1, Int.le_trans a.2 (Int.le_trans b.2 (Int.le_trans c.2 (Int.le_trans d.2 (Int.le_trans e.2 (Int.le_trans f.2 (Int.le_trans g.2 (Int.le_trans i.2 (Int.le_trans j.2 (Int.le_trans k.2 (Int.le_trans l.2 m.2))))))))))⟩
noncomputable def chkS : List Dat -> Option (Eff × List Seg) := fun ds => match ds with
  | [.d ws, .i nx, .i en, .i pa, .i er] => some ({ val := .one (.sc (.int .i64 (.sym (ckK ws (mR nx pa er))))), vc := [rdOK ws nx] }, [.c (.rows 115 ws), .c (.int .i64 (.sym ((ckR ws en (mR nx pa er)).nx))), .c (.int .i64 (.sym en)), .c (.int .i64 (.sym ((ckR ws en (mR nx pa er)).pa))), .c (.int .i64 (.sym ((ckR ws en (mR nx pa er)).er)))])
  | _ => none
noncomputable def chkC : Con := conM 64 [.c (.rows 115), .c (.int .i64), .c (.int .i64), .c (.int .i64), .c (.int .i64)] [] chkS
theorem chk_ok : ConOK Try.prog 69 chkC := by
  refine fn_obM tt_ok mixed Try.func69 rfl (fun _ _ => by kernel_rfl) (A := fun ds => ⟨fun _ => Cons.of [(37, accC), (71, expC)], fun _ => none, fun _ => none⟩) (fun _ _ => (cons_cons acc_ok (cons_cons exp_ok cons_nil))) (by kernel_rfl) ?_
  intro ds
  unfold chkS
  split
  · rename_i ws nx en pa er
    refine kmp (q := rdOK ws nx -> rdOK ws nx /\ 0 < kwB.size /\ (acB ws nx kwB = true -> (0 : Int) = ckK ws (mR nx pa er) /\ ws.rows = ws.rows /\ (acR ws kwB (mR nx pa er)).nx = (ckR ws en (mR nx pa er)).nx /\ en = en /\ (acR ws kwB (mR nx pa er)).pa = (ckR ws en (mR nx pa er)).pa /\ (acR ws kwB (mR nx pa er)).er = (ckR ws en (mR nx pa er)).er) /\ (acB ws nx kwB = false -> rdOK ws (acR ws kwB (mR nx pa er)).nx /\ 0 < kwD.size /\ (acB ws (acR ws kwB (mR nx pa er)).nx kwD = true -> (1 : Int) = ckK ws (mR nx pa er) /\ ws.rows = ws.rows /\ (acR ws kwD (acR ws kwB (mR nx pa er))).nx = (ckR ws en (mR nx pa er)).nx /\ en = en /\ (acR ws kwD (acR ws kwB (mR nx pa er))).pa = (ckR ws en (mR nx pa er)).pa /\ (acR ws kwD (acR ws kwB (mR nx pa er))).er = (ckR ws en (mR nx pa er)).er) /\ (acB ws (acR ws kwB (mR nx pa er)).nx kwD = false -> rdOK ws (acR ws kwD (acR ws kwB (mR nx pa er))).nx /\ 0 < kwY.size /\ (2 : Int) = ckK ws (mR nx pa er) /\ ws.rows = ws.rows /\ (exR ws en kwY (acR ws kwD (acR ws kwB (mR nx pa er)))).nx = (ckR ws en (mR nx pa er)).nx /\ en = en /\ (exR ws en kwY (acR ws kwD (acR ws kwB (mR nx pa er)))).pa = (ckR ws en (mR nx pa er)).pa /\ (exR ws en kwY (acR ws kwD (acR ws kwB (mR nx pa er)))).er = (ckR ws en (mR nx pa er)).er))) (by kernel_rfl) ?_
    intro h
    obtain ⟨a, b, c, d⟩ := ck_up en (r := mR nx pa er) h
    refine ⟨h, by decide, fun hc => ?_, fun hc => ?_⟩
    · have hc : acB ws (mR nx pa er).nx kwB = true := hc
      simp only [ckR, ckK, if_pos hc]
      (repeat' (with_reducible apply And.intro)) <;> first | with_reducible rfl | exact True.intro | with_reducible assumption | decide | assumption | rfl
    · have hc : ¬ acB ws (mR nx pa er).nx kwB = true := by rw [show acB ws (mR nx pa er).nx kwB = false from hc]; decide
      refine ⟨a, by decide, fun hd => ?_, fun hd => ?_⟩
      · have hd : acB ws (acR ws kwB (mR nx pa er)).nx kwD = true := hd
        simp only [ckR, ckK, if_neg hc, if_pos hd]
        (repeat' (with_reducible apply And.intro)) <;> first | with_reducible rfl | exact True.intro | with_reducible assumption | decide | assumption | rfl
      · have hd : ¬ acB ws (acR ws kwB (mR nx pa er)).nx kwD = true := by rw [show acB ws (acR ws kwB (mR nx pa er)).nx kwD = false from hd]; decide
        simp only [ckR, ckK, if_neg hc, if_neg hd]
        (repeat' (with_reducible apply And.intro)) <;> first | with_reducible rfl | exact True.intro | with_reducible assumption | decide | assumption | rfl
  · trivial
noncomputable def chnS : List Dat -> Option (Eff × List Seg) := fun ds => match ds with
  | [.d ws, .i nx, .i en, .i pa, .i er] => some ({ val := .one (.agg [.c (.raw (.string ((chZ ws en (mR nx pa er)).nm))), .c (.int .i64 (.sym ((chZ ws en (mR nx pa er)).k))), .c (.int .i64 (.sym ((chZ ws en (mR nx pa er)).n))), .c (.raw (.string ((chZ ws en (mR nx pa er)).fr))), .c (.raw (.string ((chZ ws en (mR nx pa er)).to))), .c (.osl 9 0 (.lit 0) (.sym ((chZ ws en (mR nx pa er)).tg.len)))]), vc := [rdOK ws nx], nw := [(0, .orow 9 ((chZ ws en (mR nx pa er)).tg))] }, [.c (.rows 115 ws), .c (.int .i64 (.sym ((chR ws en (mR nx pa er)).nx))), .c (.int .i64 (.sym en)), .c (.int .i64 (.sym ((chR ws en (mR nx pa er)).pa))), .c (.int .i64 (.sym ((chR ws en (mR nx pa er)).er)))])
  | _ => none
noncomputable def chnC : Con := conM 64 [.c (.rows 115), .c (.int .i64), .c (.int .i64), .c (.int .i64), .c (.int .i64)] [] chnS
theorem chn_ok : ConOK Try.prog 38 chnC := by
  refine fn_obM tt_ok mixed Try.func38 rfl (fun _ _ => by kernel_rfl) (A := fun ds => ⟨fun _ => Cons.of [(68, namC), (69, chkC), (70, numC), (71, expC), (37, accC)], fun k => match k, ds with | 8, [.d ws, .i nx, .i en, .i pa, .i er] => some { ι := D × Rd, pre := fun _ q => rdOK ws q.2.nx /\ (seqA (acG coB ws) (tgF ws en) ws q.1 q.2 = chT ws en (mR nx pa er)) /\ q.1.len + left ws q.2 <= 1000001, μ := fun q => left ws q.2, st := fun s q => famR s [] [0, 2, 3] [(0, .own 64 ([.c (.rows 115 ws), .c (.int .i64 (.sym ((q.2).nx))), .c (.int .i64 (.sym en)), .c (.int .i64 (.sym ((q.2).pa))), .c (.int .i64 (.sym ((q.2).er)))])), (idOf s 3, .own 97 ([.c (.raw (.string ((chZ ws en (mR nx pa er)).nm))), .c (.int .i64 (.sym ((chZ ws en (mR nx pa er)).k))), .c (.int .i64 (.sym ((chZ ws en (mR nx pa er)).n))), .c (.raw (.string ((chZ ws en (mR nx pa er)).fr))), .c (.raw (.string ((chZ ws en (mR nx pa er)).to))), .c (.osl 9 (cellIdP s 3 5) (.lit 0) (.sym (q.1.len)))])), (cellIdP s 3 5, .orow 9 (q.1))] [2] } | _, _ => none, fun _ => none⟩) (fun _ _ => (cons_cons nam_ok (cons_cons chk_ok (cons_cons num_ok (cons_cons exp_ok (cons_cons acc_ok cons_nil)))))) (by kernel_rfl) ?_
  intro ds
  unfold chnS
  split
  · rename_i ws nx en pa er
    refine kmp (q := rdOK ws nx -> rdOK ws nx /\ rdOK ws (nmR ws en (mR nx pa er)).nx /\ rdOK ws (ckR ws en (nmR ws en (mR nx pa er))).nx /\ rdOK ws (nuR ws en (ckR ws en (nmR ws en (mR nx pa er)))).nx /\ 0 < kwO.size /\ rdOK ws (exR ws en kwO (nuR ws en (ckR ws en (nmR ws en (mR nx pa er))))).nx /\ rdOK ws (nmR ws en (exR ws en kwO (nuR ws en (ckR ws en (nmR ws en (mR nx pa er)))))).nx /\ 0 < kwT.size /\ rdOK ws (exR ws en kwT (nmR ws en (exR ws en kwO (nuR ws en (ckR ws en (nmR ws en (mR nx pa er))))))).nx /\ rdOK ws (nmR ws en (exR ws en kwT (nmR ws en (exR ws en kwO (nuR ws en (ckR ws en (nmR ws en (mR nx pa er)))))))).nx /\ 0 < obB.size /\ rdOK ws (exR ws en obB (nmR ws en (exR ws en kwT (nmR ws en (exR ws en kwO (nuR ws en (ckR ws en (nmR ws en (mR nx pa er))))))))).nx /\ ((0 : Nat) + ((D.l [[D.s (nmS ws (exR ws en obB (nmR ws en (exR ws en kwT (nmR ws en (exR ws en kwO (nuR ws en (ckR ws en (nmR ws en (mR nx pa er))))))))))]]).sub 0 ((0 : Nat) + (1 : Nat))).len) * 16 <= 140737488355328 /\ 0 + 1 <= (D.l [[D.s (nmS ws (exR ws en obB (nmR ws en (exR ws en kwT (nmR ws en (exR ws en kwO (nuR ws en (ckR ws en (nmR ws en (mR nx pa er))))))))))]]).len /\ (∃ (i : D × Rd), (rdOK ws i.snd.nx /\ seqA (acG coB ws) (tgF ws en) ws i.fst i.snd = chT ws en (mR nx pa er) /\ i.fst.len + left ws i.snd <= (1000001 : Nat)) /\ ws.rows = ws.rows /\ (nmR ws en (exR ws en obB (nmR ws en (exR ws en kwT (nmR ws en (exR ws en kwO (nuR ws en (ckR ws en (nmR ws en (mR nx pa er)))))))))).nx = i.snd.nx /\ en = en /\ (nmR ws en (exR ws en obB (nmR ws en (exR ws en kwT (nmR ws en (exR ws en kwO (nuR ws en (ckR ws en (nmR ws en (mR nx pa er)))))))))).pa = i.snd.pa /\ (nmR ws en (exR ws en obB (nmR ws en (exR ws en kwT (nmR ws en (exR ws en kwO (nuR ws en (ckR ws en (nmR ws en (mR nx pa er)))))))))).er = i.snd.er /\ Value.string (nmS ws (mR nx pa er)) = Value.string (chZ ws en (mR nx pa er)).nm /\ ckK ws (nmR ws en (mR nx pa er)) = (chZ ws en (mR nx pa er)).k /\ nuN ws (ckR ws en (nmR ws en (mR nx pa er))) = (chZ ws en (mR nx pa er)).n /\ Value.string (nmS ws (exR ws en kwO (nuR ws en (ckR ws en (nmR ws en (mR nx pa er)))))) = Value.string (chZ ws en (mR nx pa er)).fr /\ Value.string (nmS ws (exR ws en kwT (nmR ws en (exR ws en kwO (nuR ws en (ckR ws en (nmR ws en (mR nx pa er)))))))) = Value.string (chZ ws en (mR nx pa er)).to /\ 1 = i.fst.len /\ [] ++ List.drop 0 (List.take ((0 : Nat) + (1 : Nat)) [[D.s (nmS ws (exR ws en obB (nmR ws en (exR ws en kwT (nmR ws en (exR ws en kwO (nuR ws en (ckR ws en (nmR ws en (mR nx pa er))))))))))]]) = i.fst.rows /\ Value.string ByteArray.empty = Value.string ByteArray.empty /\ (0 : Int) = (0 : Int) /\ (0 : Int) = (0 : Int) /\ Value.string ByteArray.empty = Value.string ByteArray.empty /\ Value.string ByteArray.empty = Value.string ByteArray.empty) /\ ∀ (i : D × Rd), rdOK ws i.snd.nx /\ seqA (acG coB ws) (tgF ws en) ws i.fst i.snd = chT ws en (mR nx pa er) /\ i.fst.len + left ws i.snd <= 1000001 -> rdOK ws i.snd.nx /\ 0 < coB.size /\ (acB ws i.snd.nx coB = true -> rdOK ws (acR ws coB i.snd).nx /\ i.fst.len = i.fst.len /\ (i.fst.len + ((D.l [[D.s (nmS ws (acR ws coB i.snd))]]).sub 0 ((0 : Nat) + (1 : Nat))).len) * 16 <= 140737488355328 /\ 0 + 1 <= (D.l [[D.s (nmS ws (acR ws coB i.snd))]]).len /\ ∃ (j : D × Rd), (rdOK ws j.snd.nx /\ seqA (acG coB ws) (tgF ws en) ws j.fst j.snd = chT ws en (mR nx pa er) /\ j.fst.len + left ws j.snd <= (1000001 : Nat)) /\ left ws j.snd < left ws i.snd /\ ws.rows = ws.rows /\ (nmR ws en (acR ws coB i.snd)).nx = j.snd.nx /\ en = en /\ (nmR ws en (acR ws coB i.snd)).pa = j.snd.pa /\ (nmR ws en (acR ws coB i.snd)).er = j.snd.er /\ Value.string (chZ ws en (mR nx pa er)).nm = Value.string (chZ ws en (mR nx pa er)).nm /\ (chZ ws en (mR nx pa er)).k = (chZ ws en (mR nx pa er)).k /\ (chZ ws en (mR nx pa er)).n = (chZ ws en (mR nx pa er)).n /\ Value.string (chZ ws en (mR nx pa er)).fr = Value.string (chZ ws en (mR nx pa er)).fr /\ Value.string (chZ ws en (mR nx pa er)).to = Value.string (chZ ws en (mR nx pa er)).to /\ i.fst.len + ((D.l [[D.s (nmS ws (acR ws coB i.snd))]]).sub 0 ((0 : Nat) + (1 : Nat))).len = j.fst.len /\ i.fst.rows ++ List.drop 0 (List.take ((0 : Nat) + (1 : Nat)) [[D.s (nmS ws (acR ws coB i.snd))]]) = j.fst.rows /\ Value.string ByteArray.empty = Value.string ByteArray.empty /\ (0 : Int) = (0 : Int) /\ (0 : Int) = (0 : Int) /\ Value.string ByteArray.empty = Value.string ByteArray.empty /\ Value.string ByteArray.empty = Value.string ByteArray.empty) /\ (acB ws i.snd.nx coB = false -> rdOK ws (acR ws coB i.snd).nx /\ 0 < cbB.size /\ rdOK ws (exR ws en cbB (acR ws coB i.snd)).nx /\ 0 < seB.size /\ Value.string (chZ ws en (mR nx pa er)).nm = Value.string (chZ ws en (mR nx pa er)).nm /\ (chZ ws en (mR nx pa er)).k = (chZ ws en (mR nx pa er)).k /\ (chZ ws en (mR nx pa er)).n = (chZ ws en (mR nx pa er)).n /\ Value.string (chZ ws en (mR nx pa er)).fr = Value.string (chZ ws en (mR nx pa er)).fr /\ Value.string (chZ ws en (mR nx pa er)).to = Value.string (chZ ws en (mR nx pa er)).to /\ i.fst.len = (chZ ws en (mR nx pa er)).tg.len /\ ws.rows = ws.rows /\ (exR ws en seB (exR ws en cbB (acR ws coB i.snd))).nx = (chR ws en (mR nx pa er)).nx /\ en = en /\ (exR ws en seB (exR ws en cbB (acR ws coB i.snd))).pa = (chR ws en (mR nx pa er)).pa /\ (exR ws en seB (exR ws en cbB (acR ws coB i.snd))).er = (chR ws en (mR nx pa er)).er /\ i.fst.rows = (chZ ws en (mR nx pa er)).tg.rows)) (by kernel_rfl) ?_
    intro h
    obtain ⟨⟨a, b, c, d, e, f, g, i, j⟩, k, l, m, n⟩ := ch_up en (r := mR nx pa er) h
    have l0 := (lf_lt j).2
    refine ⟨h, a, b, c, by decide, d, e, by decide, f, g, by decide, i, (by show (0 + 1) * 16 <= 140737488355328; decide), Nat.le_refl 1, ⟨(.l [[.s (nmS ws (chA4 ws en (mR nx pa er)))]], nmR ws en (chA4 ws en (mR nx pa er))), ⟨j, rfl, (by show 1 + left ws (nmR ws en (chA4 ws en (mR nx pa er))) <= 1000001; omega)⟩, ?_⟩, ?_⟩
    · (repeat' (with_reducible apply And.intro)) <;> first | with_reducible rfl | exact True.intro | with_reducible assumption | decide | assumption | rfl
    rintro q ⟨h1, h2, h3⟩
    refine ⟨h1, by decide, fun hc => ?_, fun hc => ?_⟩
    · have hg : acG coB ws q.2 = true := hc
      obtain ⟨u1, u2⟩ := (tg_sq en).up q.2 h1 hg
      have u3 := lt_left u1 h1 u2
      have hs := seq_step (tg_sq en) (d := q.1) h1 hg
      have hz : (q.1.len + 1) * 16 <= 140737488355328 := by omega
      have hl : (D.l (q.1.rows ++ [(tgF ws en q.2).1])).len + left ws (tgF ws en q.2).2 <= 1000001 := by rw [ap_len]; omega
      refine ⟨(ac_up (t := coB) h1 (by decide)).1, rfl, hz, Nat.le_refl 1, (.l (q.1.rows ++ [(tgF ws en q.2).1]), (tgF ws en q.2).2), ⟨u1, hs.trans h2, hl⟩, u3, ?_⟩
      (repeat' (with_reducible apply And.intro)) <;> first | with_reducible rfl | exact True.intro | exact (ap_len _ _).symm | rfl
    · have hg : acG coB ws q.2 = false := hc
      have h2 : (q.1, q.2) = chT ws en (mR nx pa er) := (seq_end hg).symm.trans h2
      have f1 := (ex_up en (t := cbB) h1 (by decide)).1
      rw [acR_no (r := q.2) hc]
      simp only [chZ, chR, ← h2]
      (repeat' (with_reducible apply And.intro)) <;> first | with_reducible rfl | exact True.intro | with_reducible assumption | decide | assumption | rfl
  · trivial
end Go.Proofs.Ytbhbjhejkamlnaa.Sx.Z
namespace Go.Proofs.Ytbhbjhejkamlnaa.Sx.Z
open Go.RowKit
structure Ru where
  ch : ByteArray
  mv : D
def Ru.row (c : Ru) : List D := [.s c.ch, .l c.mv.rows]
def ruA (ws : D) (en : Int) (r : Rd) : Rd := exR ws en obB (nmR ws en r)
def mvG (ws : D) (r : Rd) : Bool := decide (pkK ws r.nx = 2)
def mvX (ws : D) (en : Int) (r : Rd) : Rd := nuR ws en (nmR ws en (nuR ws en r))
def mvF (ws : D) (en : Int) (r : Rd) : List D × Rd := ([.i (nuN ws r), .s (nmS ws (nuR ws en r)), .i (nuN ws (nmR ws en (nuR ws en r)))], exR ws en seB (mvX ws en r))
def ruM (ws : D) (en : Int) (r : Rd) : D × Rd := seqA (mvG ws) (mvF ws en) ws (.l []) (ruA ws en r)
def ruZ (ws : D) (en : Int) (r : Rd) : Ru := ⟨nmS ws r, (ruM ws en r).1⟩
def ruR (ws : D) (en : Int) (r : Rd) : Rd := exR ws en cbB (ruM ws en r).2
theorem mv_sq {ws : D} (en : Int) : SqOK ws (mvG ws) (mvF ws en) := ⟨fun r h hg => by
  have hk : pkK ws r.nx = 2 := of_decide_eq_true hg
  have a := nu_up en h
  have e : (nuR ws en r).nx = r.nx + 1 := by rw [show nuR ws en r = gx r from if_pos hk]; rfl
  have b := nm_up en a.1
  have c := nu_up en b.1
  have d := ex_up en (t := seB) c.1 (by decide)
  refine ⟨d.1, ?_⟩
  have h9 : (nuR ws en r).nx <= (exR ws en seB (mvX ws en r)).nx := Int.le_trans b.2 (Int.le_trans c.2 d.2)
  show r.nx < (exR ws en seB (mvX ws en r)).nx
  omega⟩
theorem ru_up {ws : D} (en : Int) {r : Rd} (h : rdOK ws r.nx) : rdOK ws (nmR ws en r).nx /\ rdOK ws (ruA ws en r).nx /\ rdOK ws (ruM ws en r).2.nx /\ rdOK ws (ruR ws en r).nx /\ r.nx <= (ruR ws en r).nx := by
  have a := nm_up en h
  have b := ex_up en (t := obB) a.1 (by decide)
  have k := seq_up (mv_sq en) (.l []) b.1
  have l := ex_up en (t := cbB) k.1 (by decide)
  exact ⟨a.1, b.1, k.1, l.1, Int.le_trans a.2 (Int.le_trans b.2 (Int.le_trans k.2 l.2))⟩
structure Po where
  nm : ByteArray
  vs : D
  b : D
def Po.row (c : Po) : List D := [.s c.nm, .l c.vs.rows, .l c.b.rows]
def vrF (ws : D) (en : Int) (r : Rd) : List D × Rd := ([.s (nmS ws (acR ws kwV r))], exR ws en seB (nmR ws en (acR ws kwV r)))
def poV (ws : D) (en : Int) (r : Rd) : D × Rd := seqA (acG kwV ws) (vrF ws en) ws (.l []) (ruA ws en r)
def poB (ws : D) (en : Int) (r : Rd) : D × Rd := stX en ws 0 (poV ws en r).2
def poZ (ws : D) (en : Int) (r : Rd) : Po := ⟨nmS ws r, (poV ws en r).1, (poB ws en r).1⟩
def poR (ws : D) (en : Int) (r : Rd) : Rd := exR ws en cbB (poB ws en r).2
theorem vr_sq {ws : D} (en : Int) : SqOK ws (acG kwV ws) (vrF ws en) := ⟨fun r h hg => by
  have a := ac_up (t := kwV) h (by decide)
  have b := nm_up en a.1
  have d := ex_up en (t := seB) b.1 (by decide)
  exact ⟨d.1, Int.lt_of_lt_of_le (ac_lt2 hg) (Int.le_trans b.2 d.2)⟩⟩
theorem po_up {ws : D} (en : Int) {r : Rd} (h : rdOK ws r.nx) : rdOK ws (nmR ws en r).nx /\ rdOK ws (ruA ws en r).nx /\ rdOK ws (poV ws en r).2.nx /\ rdOK ws (poB ws en r).2.nx /\ rdOK ws (poR ws en r).nx /\ r.nx <= (poR ws en r).nx := by
  have a := nm_up en h
  have b := ex_up en (t := obB) a.1 (by decide)
  have k := seq_up (vr_sq en) (.l []) b.1
  have m := (stX_up en ws 0).up _ k.1
  have l := ex_up en (t := cbB) m.2 (by decide)
  exact ⟨a.1, b.1, k.1, m.2, l.1, Int.le_trans a.2 (Int.le_trans b.2 (Int.le_trans k.2 (Int.le_trans m.1 l.2)))⟩
noncomputable def rulS : List Dat -> Option (Eff × List Seg) := fun ds => match ds with
  | [.d ws, .i nx, .i en, .i pa, .i er] => some ({ val := .one (.agg [.c (.raw (.string ((ruZ ws en (mR nx pa er)).ch))), .c (.osl 106 0 (.lit 0) (.sym ((ruZ ws en (mR nx pa er)).mv.len)))]), vc := [rdOK ws nx], nw := [(0, .orow 106 ((ruZ ws en (mR nx pa er)).mv))] }, [.c (.rows 115 ws), .c (.int .i64 (.sym ((ruR ws en (mR nx pa er)).nx))), .c (.int .i64 (.sym en)), .c (.int .i64 (.sym ((ruR ws en (mR nx pa er)).pa))), .c (.int .i64 (.sym ((ruR ws en (mR nx pa er)).er)))])
  | _ => none
noncomputable def rulC : Con := conM 64 [.c (.rows 115), .c (.int .i64), .c (.int .i64), .c (.int .i64), .c (.int .i64)] [] rulS
theorem rul_ok : ConOK Try.prog 39 rulC := by
  refine fn_obM tt_ok mixed Try.func39 rfl (fun _ _ => by kernel_rfl) (A := fun ds => ⟨fun _ => Cons.of [(68, namC), (70, numC), (71, expC), (67, pekC)], fun k => match k, ds with | 3, [.d ws, .i nx, .i en, .i pa, .i er] => some { ι := D × Rd, pre := fun _ q => rdOK ws q.2.nx /\ (seqA (mvG ws) (mvF ws en) ws q.1 q.2 = ruM ws en (mR nx pa er)) /\ q.1.len + left ws q.2 <= 1000001, μ := fun q => left ws q.2, st := fun s q => famN s [] [0, 2, 3] [(0, .own 64 ([.c (.rows 115 ws), .c (.int .i64 (.sym ((q.2).nx))), .c (.int .i64 (.sym en)), .c (.int .i64 (.sym ((q.2).pa))), .c (.int .i64 (.sym ((q.2).er)))])), (idOf s 3, .own 102 ([.c (.raw (.string ((ruZ ws en (mR nx pa er)).ch))), .c (.osl 106 s.nx (.lit 0) (.sym (q.1.len)))])), (s.nx, .orow 106 (q.1))] [2] } | _, _ => none, fun _ => none⟩) (fun _ _ => (cons_cons nam_ok (cons_cons num_ok (cons_cons exp_ok (cons_cons pek_ok cons_nil))))) (by kernel_rfl) ?_
  intro ds
  unfold rulS
  split
  · rename_i ws nx en pa er
    refine kmp (q := rdOK ws nx -> rdOK ws nx /\ rdOK ws (nmR ws en (mR nx pa er)).nx /\ 0 < obB.size /\ (∃ (i : D × Rd), (rdOK ws i.snd.nx /\ seqA (mvG ws) (mvF ws en) ws i.fst i.snd = ruM ws en (mR nx pa er) /\ i.fst.len + left ws i.snd <= (1000001 : Nat)) /\ ws.rows = ws.rows /\ (exR ws en obB (nmR ws en (mR nx pa er))).nx = i.snd.nx /\ en = en /\ (exR ws en obB (nmR ws en (mR nx pa er))).pa = i.snd.pa /\ (exR ws en obB (nmR ws en (mR nx pa er))).er = i.snd.er /\ Value.string (nmS ws (mR nx pa er)) = Value.string (ruZ ws en (mR nx pa er)).ch /\ i.fst.len = 0 /\ i.fst.rows = [] /\ Value.string ByteArray.empty = Value.string ByteArray.empty) /\ ∀ (i : D × Rd), rdOK ws i.snd.nx /\ seqA (mvG ws) (mvF ws en) ws i.fst i.snd = ruM ws en (mR nx pa er) /\ i.fst.len + left ws i.snd <= 1000001 -> rdOK ws i.snd.nx /\ ((pkK ws i.snd.nx == (2 : Int)) = true -> rdOK ws i.snd.nx /\ rdOK ws (nuR ws en i.snd).nx /\ rdOK ws (nmR ws en (nuR ws en i.snd)).nx /\ i.fst.len = i.fst.len /\ (i.fst.len + ((D.l [[D.i (nuN ws i.snd), D.s (nmS ws (nuR ws en i.snd)), D.i (nuN ws (nmR ws en (nuR ws en i.snd)))]]).sub 0 ((0 : Nat) + (1 : Nat))).len) * 32 <= 140737488355328 /\ 0 + 1 <= (D.l [[D.i (nuN ws i.snd), D.s (nmS ws (nuR ws en i.snd)), D.i (nuN ws (nmR ws en (nuR ws en i.snd)))]]).len /\ rdOK ws (nuR ws en (nmR ws en (nuR ws en i.snd))).nx /\ 0 < seB.size /\ ∃ (j : D × Rd), (rdOK ws j.snd.nx /\ seqA (mvG ws) (mvF ws en) ws j.fst j.snd = ruM ws en (mR nx pa er) /\ j.fst.len + left ws j.snd <= (1000001 : Nat)) /\ left ws j.snd < left ws i.snd /\ ws.rows = ws.rows /\ (exR ws en seB (nuR ws en (nmR ws en (nuR ws en i.snd)))).nx = j.snd.nx /\ en = en /\ (exR ws en seB (nuR ws en (nmR ws en (nuR ws en i.snd)))).pa = j.snd.pa /\ (exR ws en seB (nuR ws en (nmR ws en (nuR ws en i.snd)))).er = j.snd.er /\ Value.string (ruZ ws en (mR nx pa er)).ch = Value.string (ruZ ws en (mR nx pa er)).ch /\ i.fst.len + ((D.l [[D.i (nuN ws i.snd), D.s (nmS ws (nuR ws en i.snd)), D.i (nuN ws (nmR ws en (nuR ws en i.snd)))]]).sub 0 ((0 : Nat) + (1 : Nat))).len = j.fst.len /\ i.fst.rows ++ List.drop 0 (List.take ((0 : Nat) + (1 : Nat)) [[D.i (nuN ws i.snd), D.s (nmS ws (nuR ws en i.snd)), D.i (nuN ws (nmR ws en (nuR ws en i.snd)))]]) = j.fst.rows /\ Value.string ByteArray.empty = Value.string ByteArray.empty) /\ ((pkK ws i.snd.nx == (2 : Int)) = false -> rdOK ws i.snd.nx /\ 0 < cbB.size /\ Value.string (ruZ ws en (mR nx pa er)).ch = Value.string (ruZ ws en (mR nx pa er)).ch /\ i.fst.len = (ruZ ws en (mR nx pa er)).mv.len /\ ws.rows = ws.rows /\ (exR ws en cbB i.snd).nx = (ruR ws en (mR nx pa er)).nx /\ en = en /\ (exR ws en cbB i.snd).pa = (ruR ws en (mR nx pa er)).pa /\ (exR ws en cbB i.snd).er = (ruR ws en (mR nx pa er)).er /\ i.fst.rows = (ruZ ws en (mR nx pa er)).mv.rows)) (by kernel_rfl) ?_
    intro h
    obtain ⟨a, b, c, d, e⟩ := ru_up en (r := mR nx pa er) h
    have l0 := (lf_lt b).2
    refine ⟨h, a, by decide, ⟨(.l [], ruA ws en (mR nx pa er)), ⟨b, rfl, (by show 0 + left ws (ruA ws en (mR nx pa er)) <= 1000001; omega)⟩, ?_⟩, ?_⟩
    · (repeat' (with_reducible apply And.intro)) <;> first | with_reducible rfl | exact True.intro | with_reducible assumption | decide | assumption | rfl
    rintro q ⟨h1, h2, h3⟩
    refine ⟨h1, fun hc => ?_, fun hc => ?_⟩
    · have hg : mvG ws q.2 = true := decide_eq_true (eq_of_beq hc)
      obtain ⟨u1, u2⟩ := (mv_sq en).up q.2 h1 hg
      have u3 := lt_left u1 h1 u2
      have hs := seq_step (mv_sq en) (d := q.1) h1 hg
      have hz : (q.1.len + 1) * 32 <= 140737488355328 := by omega
      have hl : (D.l (q.1.rows ++ [(mvF ws en q.2).1])).len + left ws (mvF ws en q.2).2 <= 1000001 := by rw [ap_len]; omega
      have m1 := (nu_up en h1).1
      have m2 := (nm_up en m1).1
      have m3 := (nu_up en m2).1
      refine ⟨h1, m1, m2, rfl, hz, Nat.le_refl 1, m3, by decide, (.l (q.1.rows ++ [(mvF ws en q.2).1]), (mvF ws en q.2).2), ⟨u1, hs.trans h2, hl⟩, u3, ?_⟩
      (repeat' (with_reducible apply And.intro)) <;> first | with_reducible rfl | exact True.intro | exact (ap_len _ _).symm | rfl
    · have hg : mvG ws q.2 = false := decide_eq_false (ne_of_beq_false hc)
      have h2 : (q.1, q.2) = ruM ws en (mR nx pa er) := (seq_end hg).symm.trans h2
      simp only [ruZ, ruR, ← h2]
      (repeat' (with_reducible apply And.intro)) <;> first | with_reducible rfl | exact True.intro | with_reducible assumption | decide | assumption | rfl
  · trivial
noncomputable def proS : List Dat -> Option (Eff × List Seg) := fun ds => match ds with
  | [.d ws, .i nx, .i en, .i pa, .i er] => some ({ val := .one (.agg [.c (.raw (.string ((poZ ws en (mR nx pa er)).nm))), .c (.osl 9 0 (.lit 0) (.sym ((poZ ws en (mR nx pa er)).vs.len))), .c (.osl 95 1 (.lit 0) (.sym ((poZ ws en (mR nx pa er)).b.len)))]), vc := [rdOK ws nx], nw := [(0, .orow 9 ((poZ ws en (mR nx pa er)).vs)), (1, .orow 95 ((poZ ws en (mR nx pa er)).b))] }, [.c (.rows 115 ws), .c (.int .i64 (.sym ((poR ws en (mR nx pa er)).nx))), .c (.int .i64 (.sym en)), .c (.int .i64 (.sym ((poR ws en (mR nx pa er)).pa))), .c (.int .i64 (.sym ((poR ws en (mR nx pa er)).er)))])
  | _ => none
noncomputable def proC : Con := conM 64 [.c (.rows 115), .c (.int .i64), .c (.int .i64), .c (.int .i64), .c (.int .i64)] [] proS
theorem pro_ok : ConOK Try.prog 40 proC := by
  refine fn_obM tt_ok mixed Try.func40 rfl (fun _ _ => by kernel_rfl) (A := fun ds => ⟨fun _ => Cons.of [(68, namC), (37, accC), (71, expC), (72, (stmC stX 1000001))], fun k => match k, ds with | 3, [.d ws, .i nx, .i en, .i pa, .i er] => some { ι := D × Rd, pre := fun _ q => rdOK ws q.2.nx /\ (seqA (acG kwV ws) (vrF ws en) ws q.1 q.2 = poV ws en (mR nx pa er)) /\ q.1.len + left ws q.2 <= 1000001, μ := fun q => left ws q.2, st := fun s q => famN s [] [0, 2, 3] [(0, .own 64 ([.c (.rows 115 ws), .c (.int .i64 (.sym ((q.2).nx))), .c (.int .i64 (.sym en)), .c (.int .i64 (.sym ((q.2).pa))), .c (.int .i64 (.sym ((q.2).er)))])), (idOf s 3, .own 87 ([.c (.raw (.string ((poZ ws en (mR nx pa er)).nm))), .c (.osl 9 s.nx (.lit 0) (.sym (q.1.len))), .c .nils])), (s.nx, .orow 9 (q.1))] [2] } | _, _ => none, fun _ => none⟩) (fun _ _ => (cons_cons nam_ok (cons_cons acc_ok (cons_cons exp_ok (cons_cons stX_ok cons_nil))))) (by kernel_rfl) ?_
  intro ds
  unfold proS
  split
  · rename_i ws nx en pa er
    refine kmp (q := rdOK ws nx -> rdOK ws nx /\ rdOK ws (nmR ws en (mR nx pa er)).nx /\ 0 < obB.size /\ (∃ (i : D × Rd), (rdOK ws i.snd.nx /\ seqA (acG kwV ws) (vrF ws en) ws i.fst i.snd = poV ws en (mR nx pa er) /\ i.fst.len + left ws i.snd <= (1000001 : Nat)) /\ ws.rows = ws.rows /\ (exR ws en obB (nmR ws en (mR nx pa er))).nx = i.snd.nx /\ en = en /\ (exR ws en obB (nmR ws en (mR nx pa er))).pa = i.snd.pa /\ (exR ws en obB (nmR ws en (mR nx pa er))).er = i.snd.er /\ Value.string (nmS ws (mR nx pa er)) = Value.string (poZ ws en (mR nx pa er)).nm /\ i.fst.len = 0 /\ i.fst.rows = [] /\ Value.string ByteArray.empty = Value.string ByteArray.empty) /\ ∀ (i : D × Rd), rdOK ws i.snd.nx /\ seqA (acG kwV ws) (vrF ws en) ws i.fst i.snd = poV ws en (mR nx pa er) /\ i.fst.len + left ws i.snd <= 1000001 -> rdOK ws i.snd.nx /\ 0 < kwV.size /\ (acB ws i.snd.nx kwV = true -> rdOK ws (acR ws kwV i.snd).nx /\ i.fst.len = i.fst.len /\ (i.fst.len + ((D.l [[D.s (nmS ws (acR ws kwV i.snd))]]).sub 0 ((0 : Nat) + (1 : Nat))).len) * 16 <= 140737488355328 /\ 0 + 1 <= (D.l [[D.s (nmS ws (acR ws kwV i.snd))]]).len /\ rdOK ws (nmR ws en (acR ws kwV i.snd)).nx /\ 0 < seB.size /\ ∃ (j : D × Rd), (rdOK ws j.snd.nx /\ seqA (acG kwV ws) (vrF ws en) ws j.fst j.snd = poV ws en (mR nx pa er) /\ j.fst.len + left ws j.snd <= (1000001 : Nat)) /\ left ws j.snd < left ws i.snd /\ ws.rows = ws.rows /\ (exR ws en seB (nmR ws en (acR ws kwV i.snd))).nx = j.snd.nx /\ en = en /\ (exR ws en seB (nmR ws en (acR ws kwV i.snd))).pa = j.snd.pa /\ (exR ws en seB (nmR ws en (acR ws kwV i.snd))).er = j.snd.er /\ Value.string (poZ ws en (mR nx pa er)).nm = Value.string (poZ ws en (mR nx pa er)).nm /\ i.fst.len + ((D.l [[D.s (nmS ws (acR ws kwV i.snd))]]).sub 0 ((0 : Nat) + (1 : Nat))).len = j.fst.len /\ i.fst.rows ++ List.drop 0 (List.take ((0 : Nat) + (1 : Nat)) [[D.s (nmS ws (acR ws kwV i.snd))]]) = j.fst.rows /\ Value.string ByteArray.empty = Value.string ByteArray.empty) /\ (acB ws i.snd.nx kwV = false -> rdOK ws (acR ws kwV i.snd).nx /\ dpOK ws (acR ws kwV i.snd) (0 : Int) /\ left ws (acR ws kwV i.snd) < 1000001 /\ rdOK ws (stX en ws (0 : Int) (acR ws kwV i.snd)).snd.nx /\ 0 < cbB.size /\ Value.string (poZ ws en (mR nx pa er)).nm = Value.string (poZ ws en (mR nx pa er)).nm /\ i.fst.len = (poZ ws en (mR nx pa er)).vs.len /\ (stX en ws (0 : Int) (acR ws kwV i.snd)).fst.len = (poZ ws en (mR nx pa er)).b.len /\ ws.rows = ws.rows /\ (exR ws en cbB (stX en ws (0 : Int) (acR ws kwV i.snd)).snd).nx = (poR ws en (mR nx pa er)).nx /\ en = en /\ (exR ws en cbB (stX en ws (0 : Int) (acR ws kwV i.snd)).snd).pa = (poR ws en (mR nx pa er)).pa /\ (exR ws en cbB (stX en ws (0 : Int) (acR ws kwV i.snd)).snd).er = (poR ws en (mR nx pa er)).er /\ i.fst.rows = (poZ ws en (mR nx pa er)).vs.rows /\ (stX en ws (0 : Int) (acR ws kwV i.snd)).fst.rows = (poZ ws en (mR nx pa er)).b.rows)) (by kernel_rfl) ?_
    intro h
    obtain ⟨a, b, c, d, e, f⟩ := po_up en (r := mR nx pa er) h
    have l0 := (lf_lt b).2
    refine ⟨h, a, by decide, ⟨(.l [], ruA ws en (mR nx pa er)), ⟨b, rfl, (by show 0 + left ws (ruA ws en (mR nx pa er)) <= 1000001; omega)⟩, ?_⟩, ?_⟩
    · (repeat' (with_reducible apply And.intro)) <;> first | with_reducible rfl | exact True.intro | with_reducible assumption | decide | assumption | rfl
    rintro q ⟨h1, h2, h3⟩
    refine ⟨h1, by decide, fun hc => ?_, fun hc => ?_⟩
    · have hg : acG kwV ws q.2 = true := hc
      obtain ⟨u1, u2⟩ := (vr_sq en).up q.2 h1 hg
      have u3 := lt_left u1 h1 u2
      have hs := seq_step (vr_sq en) (d := q.1) h1 hg
      have hz : (q.1.len + 1) * 16 <= 140737488355328 := by omega
      have hl : (D.l (q.1.rows ++ [(vrF ws en q.2).1])).len + left ws (vrF ws en q.2).2 <= 1000001 := by rw [ap_len]; omega
      have m1 := (ac_up (t := kwV) h1 (by decide)).1
      have m2 := (nm_up en m1).1
      refine ⟨m1, rfl, hz, Nat.le_refl 1, m2, by decide, (.l (q.1.rows ++ [(vrF ws en q.2).1]), (vrF ws en q.2).2), ⟨u1, hs.trans h2, hl⟩, u3, ?_⟩
      (repeat' (with_reducible apply And.intro)) <;> first | with_reducible rfl | exact True.intro | exact (ap_len _ _).symm | rfl
    · have hg : acG kwV ws q.2 = false := hc
      have h2 : (q.1, q.2) = poV ws en (mR nx pa er) := (seq_end hg).symm.trans h2
      rw [acR_no (r := q.2) hc]
      have f1 := (lf_lt h1).1
      have f2 := (lf_lt h1).2
      have f3 := ((stX_up en ws 0).up _ h1).2
      simp only [etR, poZ, poR, poB, ← h2]
      (repeat' (with_reducible apply And.intro)) <;> first | with_reducible rfl | exact True.intro | with_reducible assumption | decide | assumption | rfl
  · trivial
end Go.Proofs.Ytbhbjhejkamlnaa.Sx.Z
namespace Go.Proofs.Ytbhbjhejkamlnaa.Sx.Z
open Go.RowKit
def csF (ws : D) (en : Int) (r : Rd) : List D × Rd := ((chZ ws en (acR ws kwC r)).row, chR ws en (acR ws kwC r))
def usF (ws : D) (en : Int) (r : Rd) : List D × Rd := ((ruZ ws en (acR ws kwU r)).row, ruR ws en (acR ws kwU r))
def psF (ws : D) (en : Int) (r : Rd) : List D × Rd := ((poZ ws en (acR ws kwP r)).row, poR ws en (acR ws kwP r))
def syC (ws : D) (en : Int) (r : Rd) : D × Rd := seqA (acG kwC ws) (csF ws en) ws (.l []) r
def syU (ws : D) (en : Int) (r : Rd) : D × Rd := seqA (acG kwU ws) (usF ws en) ws (.l []) (syC ws en r).2
def syP (ws : D) (en : Int) (r : Rd) : D × Rd := seqA (acG kwP ws) (psF ws en) ws (.l []) (syU ws en r).2
def syR (ws : D) (en : Int) (r : Rd) : Rd := fiR ws en (syP ws en r).2
theorem cs_sq {ws : D} (en : Int) : SqOK ws (acG kwC ws) (csF ws en) := ⟨fun r h hg => by
  have a := ac_up (t := kwC) h (by decide)
  have b := (ch_up en a.1).2.2.2
  exact ⟨b.1, Int.lt_of_lt_of_le (ac_lt2 hg) b.2⟩⟩
theorem us_sq {ws : D} (en : Int) : SqOK ws (acG kwU ws) (usF ws en) := ⟨fun r h hg => by
  have a := ac_up (t := kwU) h (by decide)
  have b := (ru_up en a.1).2.2.2
  exact ⟨b.1, Int.lt_of_lt_of_le (ac_lt2 hg) b.2⟩⟩
theorem ps_sq {ws : D} (en : Int) : SqOK ws (acG kwP ws) (psF ws en) := ⟨fun r h hg => by
  have a := ac_up (t := kwP) h (by decide)
  have b := (po_up en a.1).2.2.2.2
  exact ⟨b.1, Int.lt_of_lt_of_le (ac_lt2 hg) b.2⟩⟩
theorem sy_up {ws : D} (en : Int) {r : Rd} (h : rdOK ws r.nx) : rdOK ws (syC ws en r).2.nx /\ rdOK ws (syU ws en r).2.nx /\ rdOK ws (syP ws en r).2.nx := by
  have a := seq_up (cs_sq en) (.l []) h
  have b := seq_up (us_sq en) (.l []) a.1
  exact ⟨a.1, b.1, (seq_up (ps_sq en) (.l []) b.1).1⟩
noncomputable def sysS : List Dat -> Option (Eff × List Seg) := fun ds => match ds with
  | [.d ws, .i nx, .i en, .i pa, .i er] => some ({ val := .one (.agg [.c (.osl 97 0 (.lit 0) (.sym ((syC ws en (mR nx pa er)).1.len))), .c (.osl 102 1 (.lit 0) (.sym ((syU ws en (mR nx pa er)).1.len))), .c (.osl 87 2 (.lit 0) (.sym ((syP ws en (mR nx pa er)).1.len)))]), vc := [rdOK ws nx], nw := [(0, .orow 97 ((syC ws en (mR nx pa er)).1)), (1, .orow 102 ((syU ws en (mR nx pa er)).1)), (2, .orow 87 ((syP ws en (mR nx pa er)).1))] }, [.c (.rows 115 ws), .c (.int .i64 (.sym ((syR ws en (mR nx pa er)).nx))), .c (.int .i64 (.sym en)), .c (.int .i64 (.sym ((syR ws en (mR nx pa er)).pa))), .c (.int .i64 (.sym ((syR ws en (mR nx pa er)).er)))])
  | _ => none
noncomputable def sysC : Con := conM 64 [.c (.rows 115), .c (.int .i64), .c (.int .i64), .c (.int .i64), .c (.int .i64)] [] sysS
theorem sys_ok : ConOK Try.prog 14 sysC := by
  refine fn_obM tt_ok mixed Try.func14 rfl (fun _ _ => by kernel_rfl) (A := fun ds => ⟨fun _ => Cons.of [(38, chnC), (39, rulC), (40, proC), (37, accC), (41, finC)], fun k => match k, ds with | 2, [.d ws, .i nx, .i en, .i pa, .i er] => some { ι := D × Rd, pre := fun _ q => rdOK ws q.2.nx /\ (seqA (acG kwC ws) (csF ws en) ws q.1 q.2 = (syC ws en (mR nx pa er))) /\ q.1.len + left ws q.2 <= 1000001, μ := fun q => left ws q.2, st := fun s q => famN s [] [0, 2, 3] [(0, .own 64 ([.c (.rows 115 ws), .c (.int .i64 (.sym ((q.2).nx))), .c (.int .i64 (.sym en)), .c (.int .i64 (.sym ((q.2).pa))), .c (.int .i64 (.sym ((q.2).er)))])), (idOf s 3, .own 26 ([.c (.osl 97 s.nx (.lit 0) (.sym (q.1.len))), .c .nils, .c .nils])), (s.nx, .orow 97 (q.1))] [2] } | 4, [.d ws, .i nx, .i en, .i pa, .i er] => some { ι := D × Rd, pre := fun _ q => rdOK ws q.2.nx /\ (seqA (acG kwU ws) (usF ws en) ws q.1 q.2 = (syU ws en (mR nx pa er))) /\ q.1.len + left ws q.2 <= 1000001, μ := fun q => left ws q.2, st := fun s q => famN s [] [0, 2, 3] [(0, .own 64 ([.c (.rows 115 ws), .c (.int .i64 (.sym ((q.2).nx))), .c (.int .i64 (.sym en)), .c (.int .i64 (.sym ((q.2).pa))), .c (.int .i64 (.sym ((q.2).er)))])), (idOf s 3, .own 26 ([.c (.osl 97 (cellIdP s 3 0) (.lit 0) (.sym ((syC ws en (mR nx pa er)).1.len))), .c (.osl 102 s.nx (.lit 0) (.sym (q.1.len))), .c .nils])), (cellIdP s 3 0, .orow 97 ((syC ws en (mR nx pa er)).1)), (s.nx, .orow 102 (q.1))] [2] } | 6, [.d ws, .i nx, .i en, .i pa, .i er] => some { ι := D × Rd, pre := fun _ q => rdOK ws q.2.nx /\ (seqA (acG kwP ws) (psF ws en) ws q.1 q.2 = (syP ws en (mR nx pa er))) /\ q.1.len + left ws q.2 <= 1000001, μ := fun q => left ws q.2, st := fun s q => famN s [] [0, 2, 3] [(0, .own 64 ([.c (.rows 115 ws), .c (.int .i64 (.sym ((q.2).nx))), .c (.int .i64 (.sym en)), .c (.int .i64 (.sym ((q.2).pa))), .c (.int .i64 (.sym ((q.2).er)))])), (idOf s 3, .own 26 ([.c (.osl 97 (cellIdP s 3 0) (.lit 0) (.sym ((syC ws en (mR nx pa er)).1.len))), .c (.osl 102 (cellIdP s 3 1) (.lit 0) (.sym ((syU ws en (mR nx pa er)).1.len))), .c (.osl 87 s.nx (.lit 0) (.sym (q.1.len)))])), (cellIdP s 3 0, .orow 97 ((syC ws en (mR nx pa er)).1)), (cellIdP s 3 1, .orow 102 ((syU ws en (mR nx pa er)).1)), (s.nx, .orow 87 (q.1))] [2] } | _, _ => none, fun _ => none⟩) (fun _ _ => (cons_cons chn_ok (cons_cons rul_ok (cons_cons pro_ok (cons_cons acc_ok (cons_cons fin_ok cons_nil)))))) (by kernel_rfl) ?_
  intro ds
  unfold sysS
  split
  · rename_i ws nx en pa er
    refine kmp (q := rdOK ws nx -> (∃ (i : D × Rd), (rdOK ws i.snd.nx /\ seqA (acG kwC ws) (csF ws en) ws i.fst i.snd = syC ws en (mR nx pa er) /\ i.fst.len + left ws i.snd <= (1000001 : Nat)) /\ ws.rows = ws.rows /\ nx = i.snd.nx /\ en = en /\ pa = i.snd.pa /\ er = i.snd.er /\ i.fst.len = 0 /\ i.fst.rows = []) /\ ∀ (i : D × Rd), rdOK ws i.snd.nx /\ seqA (acG kwC ws) (csF ws en) ws i.fst i.snd = syC ws en (mR nx pa er) /\ i.fst.len + left ws i.snd <= 1000001 -> rdOK ws i.snd.nx /\ 0 < kwC.size /\ (acB ws i.snd.nx kwC = true -> rdOK ws (acR ws kwC i.snd).nx /\ 0 + (chZ ws en (acR ws kwC i.snd)).tg.len <= (chZ ws en (acR ws kwC i.snd)).tg.len /\ i.fst.len = i.fst.len /\ (i.fst.len + ((D.l [[D.s (chZ ws en (acR ws kwC i.snd)).nm, D.i (chZ ws en (acR ws kwC i.snd)).k, D.i (chZ ws en (acR ws kwC i.snd)).n, D.s (chZ ws en (acR ws kwC i.snd)).fr, D.s (chZ ws en (acR ws kwC i.snd)).to, (chZ ws en (acR ws kwC i.snd)).tg.sub 0 ((0 : Nat) + (chZ ws en (acR ws kwC i.snd)).tg.len)]]).sub 0 ((0 : Nat) + (1 : Nat))).len) * 88 <= 140737488355328 /\ 0 + 1 <= (D.l [[D.s (chZ ws en (acR ws kwC i.snd)).nm, D.i (chZ ws en (acR ws kwC i.snd)).k, D.i (chZ ws en (acR ws kwC i.snd)).n, D.s (chZ ws en (acR ws kwC i.snd)).fr, D.s (chZ ws en (acR ws kwC i.snd)).to, (chZ ws en (acR ws kwC i.snd)).tg.sub 0 ((0 : Nat) + (chZ ws en (acR ws kwC i.snd)).tg.len)]]).len /\ ∃ (j : D × Rd), (rdOK ws j.snd.nx /\ seqA (acG kwC ws) (csF ws en) ws j.fst j.snd = syC ws en (mR nx pa er) /\ j.fst.len + left ws j.snd <= (1000001 : Nat)) /\ left ws j.snd < left ws i.snd /\ ws.rows = ws.rows /\ (chR ws en (acR ws kwC i.snd)).nx = j.snd.nx /\ en = en /\ (chR ws en (acR ws kwC i.snd)).pa = j.snd.pa /\ (chR ws en (acR ws kwC i.snd)).er = j.snd.er /\ i.fst.len + ((D.l [[D.s (chZ ws en (acR ws kwC i.snd)).nm, D.i (chZ ws en (acR ws kwC i.snd)).k, D.i (chZ ws en (acR ws kwC i.snd)).n, D.s (chZ ws en (acR ws kwC i.snd)).fr, D.s (chZ ws en (acR ws kwC i.snd)).to, (chZ ws en (acR ws kwC i.snd)).tg.sub 0 ((0 : Nat) + (chZ ws en (acR ws kwC i.snd)).tg.len)]]).sub 0 ((0 : Nat) + (1 : Nat))).len = j.fst.len /\ i.fst.rows ++ List.drop 0 (List.take ((0 : Nat) + (1 : Nat)) [[D.s (chZ ws en (acR ws kwC i.snd)).nm, D.i (chZ ws en (acR ws kwC i.snd)).k, D.i (chZ ws en (acR ws kwC i.snd)).n, D.s (chZ ws en (acR ws kwC i.snd)).fr, D.s (chZ ws en (acR ws kwC i.snd)).to, (chZ ws en (acR ws kwC i.snd)).tg.sub 0 ((0 : Nat) + (chZ ws en (acR ws kwC i.snd)).tg.len)]]) = j.fst.rows) /\ (acB ws i.snd.nx kwC = false -> (∃ (i_1 : D × Rd), (rdOK ws i_1.snd.nx /\ seqA (acG kwU ws) (usF ws en) ws i_1.fst i_1.snd = syU ws en (mR nx pa er) /\ i_1.fst.len + left ws i_1.snd <= (1000001 : Nat)) /\ ws.rows = ws.rows /\ (acR ws kwC i.snd).nx = i_1.snd.nx /\ en = en /\ (acR ws kwC i.snd).pa = i_1.snd.pa /\ (acR ws kwC i.snd).er = i_1.snd.er /\ i.fst.len = (syC ws en (mR nx pa er)).fst.len /\ i_1.fst.len = 0 /\ i.fst.rows = (syC ws en (mR nx pa er)).fst.rows /\ i_1.fst.rows = []) /\ ∀ (i : D × Rd), rdOK ws i.snd.nx /\ seqA (acG kwU ws) (usF ws en) ws i.fst i.snd = syU ws en (mR nx pa er) /\ i.fst.len + left ws i.snd <= 1000001 -> rdOK ws i.snd.nx /\ 0 < kwU.size /\ (acB ws i.snd.nx kwU = true -> rdOK ws (acR ws kwU i.snd).nx /\ 0 + (ruZ ws en (acR ws kwU i.snd)).mv.len <= (ruZ ws en (acR ws kwU i.snd)).mv.len /\ i.fst.len = i.fst.len /\ (i.fst.len + ((D.l [[D.s (ruZ ws en (acR ws kwU i.snd)).ch, (ruZ ws en (acR ws kwU i.snd)).mv.sub 0 ((0 : Nat) + (ruZ ws en (acR ws kwU i.snd)).mv.len)]]).sub 0 ((0 : Nat) + (1 : Nat))).len) * 40 <= 140737488355328 /\ 0 + 1 <= (D.l [[D.s (ruZ ws en (acR ws kwU i.snd)).ch, (ruZ ws en (acR ws kwU i.snd)).mv.sub 0 ((0 : Nat) + (ruZ ws en (acR ws kwU i.snd)).mv.len)]]).len /\ ∃ (j : D × Rd), (rdOK ws j.snd.nx /\ seqA (acG kwU ws) (usF ws en) ws j.fst j.snd = syU ws en (mR nx pa er) /\ j.fst.len + left ws j.snd <= (1000001 : Nat)) /\ left ws j.snd < left ws i.snd /\ ws.rows = ws.rows /\ (ruR ws en (acR ws kwU i.snd)).nx = j.snd.nx /\ en = en /\ (ruR ws en (acR ws kwU i.snd)).pa = j.snd.pa /\ (ruR ws en (acR ws kwU i.snd)).er = j.snd.er /\ (syC ws en (mR nx pa er)).fst.len = (syC ws en (mR nx pa er)).fst.len /\ i.fst.len + ((D.l [[D.s (ruZ ws en (acR ws kwU i.snd)).ch, (ruZ ws en (acR ws kwU i.snd)).mv.sub 0 ((0 : Nat) + (ruZ ws en (acR ws kwU i.snd)).mv.len)]]).sub 0 ((0 : Nat) + (1 : Nat))).len = j.fst.len /\ (syC ws en (mR nx pa er)).fst.rows = (syC ws en (mR nx pa er)).fst.rows /\ i.fst.rows ++ List.drop 0 (List.take ((0 : Nat) + (1 : Nat)) [[D.s (ruZ ws en (acR ws kwU i.snd)).ch, (ruZ ws en (acR ws kwU i.snd)).mv.sub 0 ((0 : Nat) + (ruZ ws en (acR ws kwU i.snd)).mv.len)]]) = j.fst.rows) /\ (acB ws i.snd.nx kwU = false -> (∃ (i_1 : D × Rd), (rdOK ws i_1.snd.nx /\ seqA (acG kwP ws) (psF ws en) ws i_1.fst i_1.snd = syP ws en (mR nx pa er) /\ i_1.fst.len + left ws i_1.snd <= (1000001 : Nat)) /\ ws.rows = ws.rows /\ (acR ws kwU i.snd).nx = i_1.snd.nx /\ en = en /\ (acR ws kwU i.snd).pa = i_1.snd.pa /\ (acR ws kwU i.snd).er = i_1.snd.er /\ (syC ws en (mR nx pa er)).fst.len = (syC ws en (mR nx pa er)).fst.len /\ i.fst.len = (syU ws en (mR nx pa er)).fst.len /\ i_1.fst.len = 0 /\ (syC ws en (mR nx pa er)).fst.rows = (syC ws en (mR nx pa er)).fst.rows /\ i.fst.rows = (syU ws en (mR nx pa er)).fst.rows /\ i_1.fst.rows = []) /\ ∀ (i : D × Rd), rdOK ws i.snd.nx /\ seqA (acG kwP ws) (psF ws en) ws i.fst i.snd = syP ws en (mR nx pa er) /\ i.fst.len + left ws i.snd <= 1000001 -> rdOK ws i.snd.nx /\ 0 < kwP.size /\ (acB ws i.snd.nx kwP = true -> rdOK ws (acR ws kwP i.snd).nx /\ 0 + (poZ ws en (acR ws kwP i.snd)).vs.len <= (poZ ws en (acR ws kwP i.snd)).vs.len /\ 0 + (poZ ws en (acR ws kwP i.snd)).b.len <= (poZ ws en (acR ws kwP i.snd)).b.len /\ i.fst.len = i.fst.len /\ (i.fst.len + ((D.l [[D.s (poZ ws en (acR ws kwP i.snd)).nm, (poZ ws en (acR ws kwP i.snd)).vs.sub 0 ((0 : Nat) + (poZ ws en (acR ws kwP i.snd)).vs.len), (poZ ws en (acR ws kwP i.snd)).b.sub 0 ((0 : Nat) + (poZ ws en (acR ws kwP i.snd)).b.len)]]).sub 0 ((0 : Nat) + (1 : Nat))).len) * 64 <= 140737488355328 /\ 0 + 1 <= (D.l [[D.s (poZ ws en (acR ws kwP i.snd)).nm, (poZ ws en (acR ws kwP i.snd)).vs.sub 0 ((0 : Nat) + (poZ ws en (acR ws kwP i.snd)).vs.len), (poZ ws en (acR ws kwP i.snd)).b.sub 0 ((0 : Nat) + (poZ ws en (acR ws kwP i.snd)).b.len)]]).len /\ ∃ (j : D × Rd), (rdOK ws j.snd.nx /\ seqA (acG kwP ws) (psF ws en) ws j.fst j.snd = syP ws en (mR nx pa er) /\ j.fst.len + left ws j.snd <= (1000001 : Nat)) /\ left ws j.snd < left ws i.snd /\ ws.rows = ws.rows /\ (poR ws en (acR ws kwP i.snd)).nx = j.snd.nx /\ en = en /\ (poR ws en (acR ws kwP i.snd)).pa = j.snd.pa /\ (poR ws en (acR ws kwP i.snd)).er = j.snd.er /\ (syC ws en (mR nx pa er)).fst.len = (syC ws en (mR nx pa er)).fst.len /\ (syU ws en (mR nx pa er)).fst.len = (syU ws en (mR nx pa er)).fst.len /\ i.fst.len + ((D.l [[D.s (poZ ws en (acR ws kwP i.snd)).nm, (poZ ws en (acR ws kwP i.snd)).vs.sub 0 ((0 : Nat) + (poZ ws en (acR ws kwP i.snd)).vs.len), (poZ ws en (acR ws kwP i.snd)).b.sub 0 ((0 : Nat) + (poZ ws en (acR ws kwP i.snd)).b.len)]]).sub 0 ((0 : Nat) + (1 : Nat))).len = j.fst.len /\ (syC ws en (mR nx pa er)).fst.rows = (syC ws en (mR nx pa er)).fst.rows /\ (syU ws en (mR nx pa er)).fst.rows = (syU ws en (mR nx pa er)).fst.rows /\ i.fst.rows ++ List.drop 0 (List.take ((0 : Nat) + (1 : Nat)) [[D.s (poZ ws en (acR ws kwP i.snd)).nm, (poZ ws en (acR ws kwP i.snd)).vs.sub 0 ((0 : Nat) + (poZ ws en (acR ws kwP i.snd)).vs.len), (poZ ws en (acR ws kwP i.snd)).b.sub 0 ((0 : Nat) + (poZ ws en (acR ws kwP i.snd)).b.len)]]) = j.fst.rows) /\ (acB ws i.snd.nx kwP = false -> rdOK ws (acR ws kwP i.snd).nx /\ (syC ws en (mR nx pa er)).fst.len = (syC ws en (mR nx pa er)).fst.len /\ (syU ws en (mR nx pa er)).fst.len = (syU ws en (mR nx pa er)).fst.len /\ i.fst.len = (syP ws en (mR nx pa er)).fst.len /\ ws.rows = ws.rows /\ (fiR ws en (acR ws kwP i.snd)).nx = (syR ws en (mR nx pa er)).nx /\ en = en /\ (fiR ws en (acR ws kwP i.snd)).pa = (syR ws en (mR nx pa er)).pa /\ (fiR ws en (acR ws kwP i.snd)).er = (syR ws en (mR nx pa er)).er /\ (syC ws en (mR nx pa er)).fst.rows = (syC ws en (mR nx pa er)).fst.rows /\ (syU ws en (mR nx pa er)).fst.rows = (syU ws en (mR nx pa er)).fst.rows /\ i.fst.rows = (syP ws en (mR nx pa er)).fst.rows)))) (by kernel_rfl) ?_
    intro h
    obtain ⟨a, b, c⟩ := sy_up en (r := mR nx pa er) h
    refine ⟨⟨(.l [], (mR nx pa er)), ⟨h, rfl, (by show 0 + left ws (mR nx pa er) <= 1000001; have := (lf_lt (r := (mR nx pa er)) h).2; omega)⟩, ?_⟩, ?_⟩
    · (repeat' (with_reducible apply And.intro)) <;> first | with_reducible rfl | exact True.intro | with_reducible assumption | decide | assumption | rfl
    rintro q ⟨h1, h2, h3⟩
    refine ⟨h1, by decide, fun hc => ?_, fun hc => ?_⟩
    · have hg : acG kwC ws q.2 = true := hc
      obtain ⟨u1, u2⟩ := (cs_sq en).up q.2 h1 hg
      have u3 := lt_left u1 h1 u2
      have hs := seq_step (cs_sq en) (d := q.1) h1 hg
      have hz : (q.1.len + 1) * 88 <= 140737488355328 := by omega
      have hl : (D.l (q.1.rows ++ [(csF ws en q.2).1])).len + left ws (csF ws en q.2).2 <= 1000001 := by rw [ap_len]; omega
      have m1 := (ac_up (t := kwC) h1 (by decide)).1
      refine ⟨m1, Nat.le_of_eq (Nat.zero_add _), rfl, hz, Nat.le_refl 1, (.l (q.1.rows ++ [(csF ws en q.2).1]), (csF ws en q.2).2), ⟨u1, hs.trans h2, hl⟩, u3, ?_⟩
      simp only [subAll]
      (repeat' (with_reducible apply And.intro)) <;> first | with_reducible rfl | exact True.intro | exact (ap_len _ _).symm | rfl
    have hg : acG kwC ws q.2 = false := hc
    have h2 : (q.1, q.2) = (syC ws en (mR nx pa er)) := (seq_end hg).symm.trans h2
    rw [acR_no (r := q.2) hc]
    refine ⟨⟨(.l [], (syC ws en (mR nx pa er)).2), ⟨a, rfl, (by show 0 + left ws (syC ws en (mR nx pa er)).2 <= 1000001; have := (lf_lt (r := (syC ws en (mR nx pa er)).2) a).2; omega)⟩, ?_⟩, ?_⟩
    · simp only [← h2]
      (repeat' (with_reducible apply And.intro)) <;> first | with_reducible rfl | exact True.intro | with_reducible assumption | decide | assumption | rfl
    rintro q ⟨h1, h2, h3⟩
    refine ⟨h1, by decide, fun hc => ?_, fun hc => ?_⟩
    · have hg : acG kwU ws q.2 = true := hc
      obtain ⟨u1, u2⟩ := (us_sq en).up q.2 h1 hg
      have u3 := lt_left u1 h1 u2
      have hs := seq_step (us_sq en) (d := q.1) h1 hg
      have hz : (q.1.len + 1) * 40 <= 140737488355328 := by omega
      have hl : (D.l (q.1.rows ++ [(usF ws en q.2).1])).len + left ws (usF ws en q.2).2 <= 1000001 := by rw [ap_len]; omega
      have m1 := (ac_up (t := kwU) h1 (by decide)).1
      refine ⟨m1, Nat.le_of_eq (Nat.zero_add _), rfl, hz, Nat.le_refl 1, (.l (q.1.rows ++ [(usF ws en q.2).1]), (usF ws en q.2).2), ⟨u1, hs.trans h2, hl⟩, u3, ?_⟩
      simp only [subAll]
      (repeat' (with_reducible apply And.intro)) <;> first | with_reducible rfl | exact True.intro | exact (ap_len _ _).symm | rfl
    have hg : acG kwU ws q.2 = false := hc
    have h2 : (q.1, q.2) = (syU ws en (mR nx pa er)) := (seq_end hg).symm.trans h2
    rw [acR_no (r := q.2) hc]
    refine ⟨⟨(.l [], (syU ws en (mR nx pa er)).2), ⟨b, rfl, (by show 0 + left ws (syU ws en (mR nx pa er)).2 <= 1000001; have := (lf_lt (r := (syU ws en (mR nx pa er)).2) b).2; omega)⟩, ?_⟩, ?_⟩
    · simp only [← h2]
      (repeat' (with_reducible apply And.intro)) <;> first | with_reducible rfl | exact True.intro | with_reducible assumption | decide | assumption | rfl
    rintro q ⟨h1, h2, h3⟩
    refine ⟨h1, by decide, fun hc => ?_, fun hc => ?_⟩
    · have hg : acG kwP ws q.2 = true := hc
      obtain ⟨u1, u2⟩ := (ps_sq en).up q.2 h1 hg
      have u3 := lt_left u1 h1 u2
      have hs := seq_step (ps_sq en) (d := q.1) h1 hg
      have hz : (q.1.len + 1) * 64 <= 140737488355328 := by omega
      have hl : (D.l (q.1.rows ++ [(psF ws en q.2).1])).len + left ws (psF ws en q.2).2 <= 1000001 := by rw [ap_len]; omega
      have m1 := (ac_up (t := kwP) h1 (by decide)).1
      refine ⟨m1, Nat.le_of_eq (Nat.zero_add _), Nat.le_of_eq (Nat.zero_add _), rfl, hz, Nat.le_refl 1, (.l (q.1.rows ++ [(psF ws en q.2).1]), (psF ws en q.2).2), ⟨u1, hs.trans h2, hl⟩, u3, ?_⟩
      simp only [subAll]
      (repeat' (with_reducible apply And.intro)) <;> first | with_reducible rfl | exact True.intro | exact (ap_len _ _).symm | rfl
    have hg : acG kwP ws q.2 = false := hc
    have h2 : (q.1, q.2) = (syP ws en (mR nx pa er)) := (seq_end hg).symm.trans h2
    rw [acR_no (r := q.2) hc]
    simp only [syR, ← h2]
    (repeat' (with_reducible apply And.intro)) <;> first | with_reducible rfl | exact True.intro | with_reducible assumption | decide | assumption | rfl
  · trivial
end Go.Proofs.Ytbhbjhejkamlnaa.Sx.Z
namespace Go.Proofs.Ytbhbjhejkamlnaa
def gapB (n : Int) : Bool := n == 32 || n == 10
def letB (n : Int) : Bool := decide (97 <= n) && decide (n <= 122)
def digB (n : Int) : Bool := decide (48 <= n) && decide (n <= 57)
def gapU (b : UInt8) : Bool := gapB (b.toNat : Int)
def letU (b : UInt8) : Bool := letB (b.toNat : Int)
def digU (b : UInt8) : Bool := digB (b.toNat : Int)
def alnU (b : UInt8) : Bool := letU b || digU b
def resB (l : List UInt8) : Bool :=
  l == [99, 104, 97, 110] || l == [98, 108, 111, 99, 107] || l == [100, 114, 111, 112] || l == [108, 111, 115, 115, 121] || l == [102, 114, 111, 109] || l == [116, 111] ||
  l == [114, 117, 108, 101] || l == [112, 114, 111, 99] || l == [118, 97, 114] || l == [105, 102] || l == [101, 108, 115, 101] || l == [119, 104, 105, 108, 101] ||
  l == [115, 101, 110, 100] || l == [114, 101, 99, 118] || l == [97, 115, 115, 101, 114, 116] || l == [105, 110, 112, 117, 116]
def sgnB (a : Int) (p : Bool) : Nat :=
  if a = 61 ∨ a = 60 ∨ a = 62 then (if p then 2 else 1) else if a = 33 then (if p then 2 else 0)
  else if a = 123 ∨ a = 125 ∨ a = 40 ∨ a = 41 ∨ a = 59 ∨ a = 44 ∨ a = 46 ∨ a = 43 ∨ a = 45 ∨ a = 42 ∨ a = 47 ∨ a = 37 then 1 else 0
def eqNext (l : List UInt8) : Bool := match l with
  | _ :: b :: _ => b == 61
  | _ => false
theorem eqNext_get (l : List UInt8) (h : 1 < l.length) : eqNext l = ((l[1].toNat : Int) == 61) := by
  match l, h with
  | a :: b :: t, _ =>
    show (b == 61) = ((b.toNat : Int) == 61)
    rw [Bool.eq_iff_iff]
    simp only [beq_iff_eq]
    constructor
    · rintro rfl; rfl
    · intro h; exact UInt8.toNat_inj.1 (by show b.toNat = 61; omega)
  | [], h => simp at h
  | [a], h => simp at h
theorem eqNext_short (l : List UInt8) (h : l.length <= 1) : eqNext l = false := by
  match l, h with
  | a :: b :: t, h => simp at h
  | [], _ => rfl
  | [a], _ => rfl
def sgnLen (r : List UInt8) : Nat := sgnB ((r.headD 0).toNat : Int) (eqNext r)
def lenOf (pr : UInt8 -> Bool) (r : List UInt8) : Nat := (r.takeWhile pr).length
def val (ds : List UInt8) : Nat := ds.foldl (fun n d => 10 * n + (d.toNat - 48)) 0
def nameE (r : List UInt8) : Except Int (Int × Nat × Int) :=
  if 12 < lenOf alnU r then .error 3 else .ok (if resB (r.take (lenOf alnU r)) then 4 else 1, lenOf alnU r, 0)
def numE (r : List UInt8) : Except Int (Int × Nat × Int) :=
  if 2147483647 < val (r.take (lenOf digU r)) ∨ (1 < lenOf digU r /\ r.headD 0 = 48) ∨ letU (r.getD (lenOf digU r) 0) = true then .error 3
  else .ok (2, lenOf digU r, (val (r.take (lenOf digU r)) : Int))
def sgnE (r : List UInt8) : Except Int (Int × Nat × Int) :=
  if sgnLen r = 0 then .error 2 else .ok (3, sgnLen r, 0)
def wordE (r : List UInt8) : Except Int (Int × Nat × Int) :=
  if letU (r.headD 0) then nameE r else if digU (r.headD 0) then numE r else sgnE r
structure Tok where
  kind : Int
  text : ByteArray
  num : Int
  pos : Nat
def lexGo (s : ByteArray) : Nat -> Nat -> List Tok -> Except (Nat × Int) (List Tok)
  | 0, _, acc => .ok acc
  | f + 1, p, acc =>
    if p < s.size then
      if gapU (s.data.toList.getD p 0) then lexGo s f (p + 1) acc
      else match wordE (s.data.toList.drop p) with
        | .error e => .error (p, e)
        | .ok (k, n, m) => lexGo s f (p + n) (acc ++ [⟨k, s.extract p (p + n), m, p⟩])
    else .ok acc
def lexR (s : ByteArray) : List Tok × Nat × Int := match lexGo s s.size 0 [] with
  | .error (p, e) => ([], p, e)
  | .ok acc => if 2000 < acc.length then ([], s.size, 4) else (acc, 0, 0)
theorem lenOf_le (pr : UInt8 -> Bool) (r : List UInt8) : lenOf pr r <= r.length := (List.takeWhile_prefix pr).length_le
theorem lenOf_pos (pr : UInt8 -> Bool) (r : List UInt8) (h0 : 0 < r.length) (h : pr (r.headD 0) = true) : 1 <= lenOf pr r := by
  match r, h0 with
  | a :: t, _ =>
    have h : pr a = true := h
    simp [lenOf, h]
theorem sgnB_le (a : Int) (p : Bool) : sgnB a p <= 2 := by
  unfold sgnB
  cases p <;> repeat (first | omega | split)
theorem sgnLen_le (r : List UInt8) : sgnLen r <= r.length := by
  match r with
  | [] => exact Nat.le_of_eq (by decide)
  | [a] =>
    show sgnB (a.toNat : Int) false <= 1
    unfold sgnB
    simp only [Bool.false_eq_true, if_false]
    repeat (first | omega | split)
  | a :: b :: t =>
    have := sgnB_le (a.toNat : Int) (b == 61)
    show sgnB (a.toNat : Int) (b == 61) <= t.length + 1 + 1
    omega
theorem wordE_ok {r : List UInt8} {k : Int} {n : Nat} {m : Int} (h0 : 0 < r.length) (h : wordE r = .ok (k, n, m)) : 1 <= n /\ n <= r.length /\ 0 <= m /\ m <= 2147483647 /\ 1 <= k /\ k <= 4 := by
  unfold wordE at h
  by_cases hl : letU (r.headD 0) = true
  · rw [if_pos hl] at h
    unfold nameE at h
    by_cases h12 : 12 < lenOf alnU r
    · rw [if_pos h12] at h; cases h
    · rw [if_neg h12] at h
      injection h with h; injection h with h1 h; injection h with h2 h3
      subst h2; subst h3
      refine ⟨lenOf_pos _ _ h0 (by unfold alnU; rw [hl]; rfl), lenOf_le _ _, by omega, by omega, ?_⟩
      rw [← h1]
      split <;> omega
  · rw [if_neg hl] at h
    by_cases hd : digU (r.headD 0) = true
    · rw [if_pos hd] at h
      unfold numE at h
      by_cases hc : 2147483647 < val (r.take (lenOf digU r)) ∨ (1 < lenOf digU r /\ r.headD 0 = 48) ∨ letU (r.getD (lenOf digU r) 0) = true
      · rw [if_pos hc] at h; cases h
      · rw [if_neg hc] at h
        injection h with h; injection h with h1 h; injection h with h2 h3
        subst h2; subst h3; subst h1
        refine ⟨lenOf_pos _ _ h0 hd, lenOf_le _ _, by omega, ?_, by omega, by omega⟩
        have := fun hx => hc (.inl hx)
        omega
    · rw [if_neg hd] at h
      unfold sgnE at h
      by_cases hz : sgnLen r = 0
      · rw [if_pos hz] at h; cases h
      · rw [if_neg hz] at h
        injection h with h; injection h with h1 h; injection h with h2 h3
        subst h2; subst h3; subst h1
        exact ⟨by omega, sgnLen_le r, by omega, by omega, by omega, by omega⟩
theorem wordE_err {r : List UInt8} {x : Int} (h : wordE r = .error x) : x = 2 ∨ x = 3 := by
  unfold wordE at h
  split at h
  · unfold nameE at h
    split at h
    · injection h with h; omega
    · cases h
  · split at h
    · unfold numE at h
      split at h
      · injection h with h; omega
      · cases h
    · unfold sgnE at h
      split at h
      · injection h with h; omega
      · cases h
theorem go_gap {s : ByteArray} {f p : Nat} {acc : List Tok} {R : Except (Nat × Int) (List Tok)} (hp : p < s.size) (hg : gapU (s.data.toList.getD p 0) = true) (hf : s.size <= p + f) (h : lexGo s f p acc = R) :
    ∃ f', s.size <= (p + 1) + f' /\ lexGo s f' (p + 1) acc = R := by
  obtain ⟨f', rfl⟩ : ∃ f', f = f' + 1 := ⟨f - 1, by omega⟩
  refine ⟨f', by omega, ?_⟩
  rw [lexGo, if_pos hp, if_pos hg] at h
  exact h
theorem go_err {s : ByteArray} {f p : Nat} {acc : List Tok} {R : Except (Nat × Int) (List Tok)} {e : Int} (hp : p < s.size) (hg : gapU (s.data.toList.getD p 0) = false) (hw : wordE (s.data.toList.drop p) = .error e) (hf : s.size <= p + f) (h : lexGo s f p acc = R) :
    R = .error (p, e) := by
  obtain ⟨f', rfl⟩ : ∃ f', f = f' + 1 := ⟨f - 1, by omega⟩
  rw [lexGo, if_pos hp, if_neg (by rw [hg]; decide), hw] at h
  exact h.symm
theorem go_word {s : ByteArray} {f p : Nat} {acc : List Tok} {R : Except (Nat × Int) (List Tok)} {k : Int} {n : Nat} {m : Int} (hp : p < s.size) (hg : gapU (s.data.toList.getD p 0) = false) (hw : wordE (s.data.toList.drop p) = .ok (k, n, m)) (hf : s.size <= p + f) (hn : 1 <= n) (h : lexGo s f p acc = R) :
    ∃ f', s.size <= (p + n) + f' /\ lexGo s f' (p + n) (acc ++ [⟨k, s.extract p (p + n), m, p⟩]) = R := by
  obtain ⟨f', rfl⟩ : ∃ f', f = f' + 1 := ⟨f - 1, by omega⟩
  refine ⟨f', by omega, ?_⟩
  rw [lexGo, if_pos hp, if_neg (by rw [hg]; decide), hw] at h
  exact h
theorem go_end {s : ByteArray} {f p : Nat} {acc : List Tok} {R : Except (Nat × Int) (List Tok)} (hp : s.size <= p) (h : lexGo s f p acc = R) : R = .ok acc := by
  match f with
  | 0 => exact h.symm
  | f + 1 =>
    rw [lexGo, if_neg (by omega)] at h
    exact h.symm
def Run (pr : UInt8 -> Bool) (s : ByteArray) (p k : Nat) : Prop := p <= k /\ k <= s.size /\ ∀ j, p <= j -> j < k -> pr (s.data.toList.getD j 0) = true
theorem getD_eq (s : ByteArray) (k : Nat) (h : k < s.size) : s.data.toList.getD k 0 = s[k] := by
  rw [List.getD_eq_getElem?_getD, List.getElem?_eq_getElem (by simpa using h)]
  rfl
theorem Run.start {pr : UInt8 -> Bool} {s : ByteArray} {p : Nat} (h : p <= s.size) : Run pr s p p := ⟨Nat.le_refl _, h, fun j h1 h2 => by omega⟩
theorem Run.step {pr : UInt8 -> Bool} {s : ByteArray} {p k : Nat} (h : Run pr s p k) (hk : k < s.size) (hp : pr s[k] = true) : Run pr s p (k + 1) := by
  refine ⟨by have := h.1; omega, by omega, fun j h1 h2 => ?_⟩
  by_cases e : j = k
  · subst e; rw [getD_eq s j hk]; exact hp
  · exact h.2.2 j h1 (by omega)
theorem takeWhile_len (pr : UInt8 -> Bool) : ∀ (r : List UInt8) (n : Nat), n <= r.length -> (∀ i, i < n -> pr (r.getD i 0) = true) -> (n < r.length -> pr (r.getD n 0) = false) -> (r.takeWhile pr).length = n := by
  intro r
  induction r with
  | nil => intro n h _ _; simp at h; simp [h]
  | cons a t ih =>
    intro n hn hall hstop
    match n with
    | 0 =>
      have : pr a = false := hstop (by simp)
      simp [this]
    | n + 1 =>
      have h0 : pr a = true := hall 0 (by omega)
      rw [List.takeWhile_cons, if_pos h0, List.length_cons, ih n (by simpa using hn) (fun i hi => hall (i + 1) (by omega)) (fun h => hstop (by simpa using h))]
theorem getD_drop (l : List UInt8) (p i : Nat) : (l.drop p).getD i 0 = l.getD (p + i) 0 := by
  simp [List.getD_eq_getElem?_getD, List.getElem?_drop]
theorem Run.len {pr : UInt8 -> Bool} {s : ByteArray} {p k : Nat} (h : Run pr s p k) (hk : k < s.size -> pr (s.data.toList.getD k 0) = false) : lenOf pr (s.data.toList.drop p) = k - p := by
  obtain ⟨h1, h2, h3⟩ := h
  have hl : s.data.toList.length = s.size := by simp
  refine takeWhile_len pr _ (k - p) (by rw [List.length_drop]; omega) (fun i hi => ?_) (fun hlt => ?_)
  · rw [getD_drop]; exact h3 _ (by omega) (by omega)
  · rw [getD_drop, show p + (k - p) = k from by omega]
    rw [List.length_drop] at hlt
    exact hk (by omega)
theorem Run.le_len {pr : UInt8 -> Bool} {s : ByteArray} {p k : Nat} (h : Run pr s p k) : k - p <= lenOf pr (s.data.toList.drop p) := by
  obtain ⟨h1, h2, h3⟩ := h
  have hl : s.data.toList.length = s.size := by simp
  have key : ∀ (r : List UInt8) (n : Nat), n <= r.length -> (∀ i, i < n -> pr (r.getD i 0) = true) -> n <= (r.takeWhile pr).length := by
    intro r
    induction r with
    | nil => intro n h _; simpa using h
    | cons a t ih =>
      intro n hn hall
      match n with
      | 0 => omega
      | n + 1 =>
        have h0 : pr a = true := hall 0 (by omega)
        have := ih n (by simpa using hn) (fun i hi => hall (i + 1) (by omega))
        rw [List.takeWhile_cons, if_pos h0, List.length_cons]
        omega
  exact key _ _ (by rw [List.length_drop]; omega) (fun i hi => by rw [getD_drop]; exact h3 _ (by omega) (by omega))
theorem head_drop (l : List UInt8) (p : Nat) : (l.drop p).headD 0 = l.getD p 0 := by
  rw [List.headD_eq_head?_getD, List.head?_drop, List.getD_eq_getElem?_getD]
def vl (s : ByteArray) (p k : Nat) : Nat := val ((s.data.toList.drop p).take (k - p))
theorem val_snoc (ds : List UInt8) (d : UInt8) : val (ds ++ [d]) = 10 * val ds + (d.toNat - 48) := by simp [val]
theorem val_app_le (a : List UInt8) : ∀ b : List UInt8, val a <= val (a ++ b) := by
  intro b
  induction b generalizing a with
  | nil => simp
  | cons d t ih =>
    have h1 := ih (a ++ [d])
    rw [List.append_assoc, List.singleton_append] at h1
    have h2 := val_snoc a d
    omega
theorem vl_start (s : ByteArray) (p : Nat) : vl s p p = 0 := by simp [vl, val]
theorem vl_step (s : ByteArray) (p k : Nat) (hp : p <= k) (hk : k < s.size) : vl s p (k + 1) = 10 * vl s p k + (s[k].toNat - 48) := by
  have hl : s.data.toList.length = s.size := by simp
  unfold vl
  rw [show k + 1 - p = (k - p) + 1 from by omega, List.take_succ_eq_append_getElem (by rw [List.length_drop]; omega), val_snoc]
  have : (s.data.toList.drop p)[k - p]'(by rw [List.length_drop]; omega) = s[k] := by
    rw [List.getElem_drop]
    have e : p + (k - p) = k := by omega
    simp only [e]
    rfl
  rw [this]
theorem vl_mono (s : ByteArray) (p k n : Nat) (h : k - p <= n) : vl s p k <= val ((s.data.toList.drop p).take n) := by
  unfold vl
  have e : (s.data.toList.drop p).take n = (s.data.toList.drop p).take (k - p) ++ ((s.data.toList.drop p).drop (k - p)).take (n - (k - p)) := by
    rw [← List.take_add, show k - p + (n - (k - p)) = n from by omega]
  rw [e]
  exact val_app_le _ _
end Go.Proofs.Ytbhbjhejkamlnaa
namespace Go.Proofs.Ytbhbjhejkamlnaa
open Go.RowKit
theorem gap_any (n : Int) (w : World) : Calls Try.prog 34 #[.int .u8 n] w fun e w' => e = .returned (.bool (gapB n)) /\ w = w' := by
  unfold gapB
  go_enter Try.func34, Try.ntmps34
  go_wp2
  all_goals
    go_ret
    exact ⟨by first | (simp [*]; done) | (simp [*]; omega), rfl⟩
theorem let_any (n : Int) (w : World) : Calls Try.prog 61 #[.int .u8 n] w fun e w' => e = .returned (.bool (letB n)) /\ w = w' := by
  unfold letB
  go_enter Try.func61, Try.ntmps61
  go_wp2
  all_goals
    go_ret
    exact ⟨by first | (simp [*]; done) | (simp [*]; omega), rfl⟩
theorem dig_any (n : Int) (w : World) : Calls Try.prog 63 #[.int .u8 n] w fun e w' => e = .returned (.bool (digB n)) /\ w = w' := by
  unfold digB
  go_enter Try.func63, Try.ntmps63
  go_wp2
  all_goals
    go_ret
    exact ⟨by first | (simp [*]; done) | (simp [*]; omega), rfl⟩
end Go.Proofs.Ytbhbjhejkamlnaa
namespace Go.Proofs.Ytbhbjhejkamlnaa
open Go.RowKit
set_option maxHeartbeats 1000000 in
theorem res_any (s : ByteArray) (w : World) : Calls Try.prog 84 #[.string s] w fun e w' => e = .returned (.bool (resB s.toList)) /\ w = w' := by
  unfold resB
  go_enter Try.func84, Try.ntmps84
  go_wp2
  all_goals
    go_ret
    refine ⟨?_, rfl⟩
    first | (simp [*]; done) | (exfalso; simp_all; done)
theorem ret_i64 {a b : Int} (h : a = b) : Ending.returned (.int .i64 a) = .returned (.int .i64 b) := by rw [h]
set_option maxHeartbeats 1000000 in
theorem sgn_one (s : ByteArray) (w : World) (h0 : 0 < s.size) (h1 : s.size <= 1) :
    Calls Try.prog 65 #[.string s] w fun e w' => e = .returned (.int .i64 (sgnB (s[0].toNat : Int) false)) /\ w = w' := by
  go_enter Try.func65, Try.ntmps65
  go_wp2
  all_goals
    go_ret
    refine ⟨ret_i64 ?_, rfl⟩
    simp only [beq_iff_eq, beq_eq_false_iff_ne, ne_eq] at *
    unfold sgnB
    simp [*]
set_option maxHeartbeats 2000000 in
theorem sgn_two (s : ByteArray) (w : World) (h0 : 0 < s.size) (h1 : 1 < s.size) :
    Calls Try.prog 65 #[.string s] w fun e w' => e = .returned (.int .i64 (sgnB (s[0].toNat : Int) ((s[1].toNat : Int) == 61))) /\ w = w' := by
  rcases Bool.eq_false_or_eq_true ((s[1].toNat : Int) == 61) with hp | hp
  all_goals
    rw [hp]
    go_enter Try.func65, Try.ntmps65
    go_wp2
    all_goals
      go_ret
      refine ⟨ret_i64 ?_, rfl⟩
      simp only [beq_iff_eq, beq_eq_false_iff_ne, ne_eq] at *
      unfold sgnB
      simp [*]
theorem sgn_any (s : ByteArray) (w : World) (h0 : 0 < s.size) :
    Calls Try.prog 65 #[.string s] w fun e w' => e = .returned (.int .i64 (sgnB (s[0].toNat : Int) (eqNext s.data.toList))) /\ w = w' := by
  by_cases h1 : 1 < s.size
  · refine (sgn_two s w h0 h1).mono fun e w' ⟨he, hw⟩ => ⟨he.trans ?_, hw⟩
    rw [eqNext_get s.data.toList (by simpa using h1)]
    rfl
  · refine (sgn_one s w h0 (by omega)).mono fun e w' ⟨he, hw⟩ => ⟨he.trans ?_, hw⟩
    rw [eqNext_short s.data.toList (by simp; omega)]
theorem info_u8 : (Try.prog.info? 5).map (fun i => (i.zero, i.size, i.bytes)) = some (some (.int .u8 0), 1, 1) := by kernel_rfl
set_option maxHeartbeats 2000000 in
set_option maxRecDepth 100000 in
theorem slClone_any (s : ByteArray) (w : World) (hlim : s.size <= 281474976710656) :
    Calls Try.prog 66 #[.string s] w fun e w' => e = .returned (.string s) /\ Below w.heap.size w w' := by
  by_cases h0 : s.size = 0
  · have hs : s = ⟨#[]⟩ := by
      apply ByteArray.ext
      exact Array.eq_empty_of_size_eq_zero h0
    subst hs
    go_enter Try.func66, Try.ntmps66
    go_wp2
    go_ret
    exact ⟨rfl, Below.refl _ _⟩
  · obtain ⟨i0, hi, hz0, hz1, hz2⟩ := info_parts info_u8
    have hinfo : (Try.prog.info? 5).map (·.size) = some 1 := by rw [hi]; simp [hz1]
    have hco : Try.prog.cellsOf 5 = 1 := by simp [Program.cellsOf, hi, hz1]
    obtain ⟨M, hM⟩ : ∃ M, M = madeCells (Value.int .u8 0).cells (((s.size : Nat) : Int).toNat * i0.size) := ⟨_, rfl⟩
    have hMs : M.size = s.size := by rw [hM, size_madeCells, hz1]; simp
    have hmk : ∀ W : World, (Instr.makeSlice 41 (.int .i64 (s.size : Int)) (.int .i64 (s.size : Int))).run Try.prog W = .ok (.slice (some ⟨W.heap.size, 0, none⟩) s.size s.size) (W.alloc (.cells M 5)) := fun W => by
      have h := run_make (P := Try.prog) W 41 5 i0 (.int .u8 0) Try.underlying41 hi hz0 .i64 .i64 (s.size : Int) (s.size : Int) (by omega) (by omega) (by rw [hz2]; omega) (by omega)
      rw [← hM] at h
      simpa using h
    clear hM
    have hcp := Lib.run_copy_row_string (P := Try.prog) (w.alloc (.cells M 5)) 41 9 3 5 w.heap.size 0 s.size s.size s M 5 Try.underlying41 hinfo (heap_alloc_new w _) (Nat.le_refl _) (by omega)
    obtain ⟨Y, hY⟩ : ∃ Y, Y = (M.toList.take 0 ++ Lib.byteCells s.data.toList ++ M.toList.drop (0 + s.size)).toArray := ⟨_, rfl⟩
    rw [← hY] at hcp
    have hYl : Y.toList = Lib.byteCells s.data.toList := by
      rw [hY, List.toList_toArray, List.take_zero, List.nil_append, List.drop_of_length_le (by rw [Array.length_toList]; omega), List.append_nil]
    have hYs : Y.size = s.size := by rw [← Array.length_toList, hYl, Lib.byteCells_length, ← Lib.size_eq]
    have hgY : ((w.alloc (.cells M 5)).setRow w.heap.size Y).heap[w.heap.size]? = some (.cells Y 5 (0, 0)) := setRow_heap _ _ M _ 5 (0, 0) (heap_alloc_new w _)
    have hne : s.data.toList ≠ [] := fun e => h0 (by rw [Lib.size_eq, e]; rfl)
    have hUS := Lib.run_unsafeString_row (P := Try.prog) ((w.alloc (.cells M 5)).setRow w.heap.size Y) 153 3 9 5 Try.underlying153 hco w.heap.size Y.size (by unfold World.shape?; rw [hgY]) s.data.toList hne (by rw [← Lib.size_eq]; omega) (by rw [← Lib.size_eq]; omega)
      (fun j x hx => Lib.cells_of_row hgY Y.size j _ (by rw [List.take_of_length_le (by rw [Array.length_toList]; exact Nat.le_refl _), hYl]; simp [Lib.byteCells, hx]))
    rw [← Lib.size_eq] at hUS
    clear hY
    go_enter Try.func66, Try.ntmps66
    go_wp2
    go_ret
    have hb1 : Below w.heap.size w (w.alloc (.cells M 5)) := (Below.refl _ w).alloc (Nat.le_refl _) _
    have hb2 : Below w.heap.size (w.alloc (.cells M 5)) ((w.alloc (.cells M 5)).setRow w.heap.size Y) := ⟨rfl, rfl, rfl, by simp, fun k hk => setRow_other _ _ _ _ (by omega)⟩
    exact ⟨rfl, Lib.below_freeze (hb1.trans hb2) (p := ⟨w.heap.size, 0, none⟩) (Nat.le_refl _) _⟩
theorem clone_any (s : ByteArray) (w : World) (hlim : s.size <= 281474976710656) :
    Calls Try.prog 36 #[.string s] w fun e w' => e = .returned (.string s) /\ Below w.heap.size w w' := by
  go_enter Try.func36, Try.ntmps36
  go_wp2_with (go_at_call 66; refine (slClone_any _ _ hlim).mono ?_; rintro e w1 ⟨rfl, hb⟩)
  go_ret
  exact ⟨rfl, hb⟩
end Go.Proofs.Ytbhbjhejkamlnaa
namespace Go.Proofs.Ytbhbjhejkamlnaa
open Go.RowKit
def wV (s : ByteArray) (p : Nat) : Except Int (Int × Nat × Int) -> Value
  | .error e => .tuple #[.agg #[.int .i64 0, .string ⟨#[]⟩, .int .i64 0, .int .i64 0], .int .i64 e]
  | .ok (k, n, m) => .tuple #[.agg #[.int .i64 k, .string (s.extract p (p + n)), .int .i64 m, .int .i64 p], .int .i64 0]
theorem ret_wV {s : ByteArray} {p : Nat} {x y : Except Int (Int × Nat × Int)} (h : x = y) : Ending.returned (wV s p y) = .returned (wV s p x) := by rw [h]
theorem ret_wOk {s : ByteArray} {p n k : Nat} {kk m : Int} {x : Except Int (Int × Nat × Int)} (h : x = .ok (kk, n, m)) (hk : p + n = k) : Ending.returned (.tuple #[.agg #[.int .i64 kk, .string (s.extract p k), .int .i64 m, .int .i64 p], .int .i64 0]) = .returned (wV s p x) := by
  rw [h, ← hk]
  rfl
set_option maxHeartbeats 4000000 in
theorem nameAt_any (s : ByteArray) (p : Nat) (w : World) (hs : s.size <= maxLen) (hp : p < s.size) :
    Calls Try.prog 62 #[.string s, .int .i64 p] w fun e w' => e = .returned (wV s p (nameE (s.data.toList.drop p))) /\ Below w.heap.size w w' := by
  unfold maxLen at hs
  go_enter Try.func62, Try.ntmps62
  go_wp2_with fail
  go_loop [6] (fun i => ∃ k : Nat, Run alnU s p k /\ i = .int .i64 k) (fun i => s.size - (intOf i).toNat)
  case atStart => exact ⟨p, Run.start (by omega), rfl⟩
  case round =>
    obtain ⟨k, hk, rfl⟩ := hrel
    have hk1 := hk.1
    have hk2 := hk.2.1
    have hcase : (∃ h : k < s.size, letB (s[k].toNat : Int) = true) ∨ (∃ h : k < s.size, letB (s[k].toNat : Int) = false /\ digB (s[k].toNat : Int) = true) ∨ (∃ h : k < s.size, letB (s[k].toNat : Int) = false /\ digB (s[k].toNat : Int) = false) ∨ s.size <= k := by
      by_cases hlt : k < s.size
      · rcases Bool.eq_false_or_eq_true (letB (s[k].toNat : Int)) with hl | hl
        · exact .inl ⟨hlt, hl⟩
        · rcases Bool.eq_false_or_eq_true (digB (s[k].toNat : Int)) with hd | hd
          · exact .inr (.inl ⟨hlt, hl, hd⟩)
          · exact .inr (.inr (.inl ⟨hlt, hl, hd⟩))
      · exact .inr (.inr (.inr (by omega)))
    rcases hcase with ⟨hlt, hl⟩ | ⟨hlt, hl, hd⟩ | hcase
    · go_wp2_with (first | (go_at_call 61; refine (let_any _ _).mono ?_; rintro e w' ⟨rfl, rfl⟩) | (go_at_call 63; refine (dig_any _ _).mono ?_; rintro e w' ⟨rfl, rfl⟩))
      go_round
      case rel => exact ⟨k + 1, hk.step hlt (by simp [alnU, letU, hl]), by go_num⟩
      case measure => simp [intOf]; omega
    · go_wp2_with (first | (go_at_call 61; refine (let_any _ _).mono ?_; rintro e w' ⟨rfl, rfl⟩) | (go_at_call 63; refine (dig_any _ _).mono ?_; rintro e w' ⟨rfl, rfl⟩))
      go_round
      case rel => exact ⟨k + 1, hk.step hlt (by simp [alnU, digU, hd]), by go_num⟩
      case measure => simp [intOf]; omega
    · have hn : lenOf alnU (s.data.toList.drop p) = k - p := by
        rcases hcase with ⟨hlt, hl, hd⟩ | hge
        · exact hk.len (fun h => by rw [getD_eq s k h]; simp [alnU, letU, digU, hl, hd])
        · exact hk.len (fun h => absurd h (by omega))
      by_cases h12 : 12 < k - p
      · have Hfin := Lib.hid (show nameE (s.data.toList.drop p) = .error 3 by unfold nameE; rw [hn, if_pos h12])
        clear hn
        rcases hcase with ⟨hlt, hl, hd⟩ | hge
        all_goals
          go_wp2_with (first | (go_at_call 61; refine (let_any _ _).mono ?_; rintro e w' ⟨rfl, rfl⟩) | (go_at_call 63; refine (dig_any _ _).mono ?_; rintro e w' ⟨rfl, rfl⟩))
          exact bodyPost_ret (v := .tuple #[.agg #[.int .i64 0, .string ⟨#[]⟩, .int .i64 0, .int .i64 0], .int .i64 3]) (by simp [results, Try.results62, go_sem]) rfl ⟨ret_wV Hfin.out, (Below.refl _ _).alloc (Nat.le_refl _) _⟩
      · have ht : (s.extract p k).toList = (s.data.toList.drop p).take (k - p) := Lib.extract_toList s p k
        rcases Bool.eq_false_or_eq_true (resB (s.extract p k).toList) with hr | hr
        · have Hfin := Lib.hid (show nameE (s.data.toList.drop p) = .ok (4, k - p, 0) by unfold nameE; rw [hn, if_neg h12, ← ht, if_pos hr])
          clear hn ht
          rcases hcase with ⟨hlt, hl, hd⟩ | hge
          all_goals
            go_wp2_with (first | (go_at_call 61; refine (let_any _ _).mono ?_; rintro e w' ⟨rfl, rfl⟩) | (go_at_call 63; refine (dig_any _ _).mono ?_; rintro e w' ⟨rfl, rfl⟩) | (go_at_call 84; refine (res_any _ _).mono ?_; rintro e w' ⟨rfl, rfl⟩))
            exact bodyPost_ret (v := .tuple #[.agg #[.int .i64 4, .string (s.extract p k), .int .i64 0, .int .i64 p], .int .i64 0]) (by simp [results, Try.results62, go_sem]) rfl ⟨ret_wOk Hfin.out (by omega), ((Below.refl _ _).alloc (Nat.le_refl _) _).alloc (by simp) _⟩
        · have Hfin := Lib.hid (show nameE (s.data.toList.drop p) = .ok (1, k - p, 0) by unfold nameE; rw [hn, if_neg h12, ← ht, if_neg (by rw [hr]; decide)])
          clear hn ht
          rcases hcase with ⟨hlt, hl, hd⟩ | hge
          all_goals
            go_wp2_with (first | (go_at_call 61; refine (let_any _ _).mono ?_; rintro e w' ⟨rfl, rfl⟩) | (go_at_call 63; refine (dig_any _ _).mono ?_; rintro e w' ⟨rfl, rfl⟩) | (go_at_call 84; refine (res_any _ _).mono ?_; rintro e w' ⟨rfl, rfl⟩))
            exact bodyPost_ret (v := .tuple #[.agg #[.int .i64 1, .string (s.extract p k), .int .i64 0, .int .i64 p], .int .i64 0]) (by simp [results, Try.results62, go_sem]) rfl ⟨ret_wOk Hfin.out (by omega), ((Below.refl _ _).alloc (Nat.le_refl _) _).alloc (by simp) _⟩
set_option maxHeartbeats 4000000 in
theorem numAt_any (s : ByteArray) (p : Nat) (w : World) (hs : s.size <= maxLen) (hp : p < s.size) :
    Calls Try.prog 64 #[.string s, .int .i64 p] w fun e w' => e = .returned (wV s p (numE (s.data.toList.drop p))) /\ Below w.heap.size w w' := by
  unfold maxLen at hs
  go_enter Try.func64, Try.ntmps64
  go_wp2_with fail
  go_loop [6, 7] (fun i m => ∃ k v : Nat, Run digU s p k /\ vl s p k = v /\ v <= 2147483647 /\ i = .int .i64 k /\ m = .int .i64 v) (fun i _ => s.size - (intOf i).toNat)
  case atStart => exact ⟨p, 0, Run.start (by omega), vl_start s p, by omega, rfl, rfl⟩
  case round =>
    obtain ⟨k, v, hk, hv, hv1, rfl, rfl⟩ := hrel
    have hk1 := hk.1
    have hk2 := hk.2.1
    have Hv := Lib.hid hv
    clear hv
    by_cases hin : ∃ h : k < s.size, digB (s[k].toNat : Int) = true
    · obtain ⟨hlt, hd⟩ := hin
      have hd1 : 48 <= (s[k].toNat : Int) /\ (s[k].toNat : Int) <= 57 := by simpa [digB] using hd
      obtain ⟨hd1, hd2⟩ := hd1
      have hst := vl_step s p k hk1 hlt
      rw [Hv.out] at hst
      have hrun := hk.step hlt (show digU s[k] = true from hd)
      by_cases hbig : 2147483647 < 10 * (v : Int) + ((s[k].toNat : Int) - 48)
      · have hfin : numE (s.data.toList.drop p) = .error 3 := by
          have h1 := vl_mono s p (k + 1) (lenOf digU (s.data.toList.drop p)) hrun.le_len
          have h2 : 2147483647 < val ((s.data.toList.drop p).take (lenOf digU (s.data.toList.drop p))) := by omega
          unfold numE
          rw [if_pos (.inl h2)]
        have Hfin := Lib.hid hfin
        clear hfin hst
        go_wp2_with (go_at_call 63; refine (dig_any _ _).mono ?_; rintro e w' ⟨rfl, rfl⟩)
        exact bodyPost_ret (v := .tuple #[.agg #[.int .i64 0, .string ⟨#[]⟩, .int .i64 0, .int .i64 0], .int .i64 3]) (by simp [results, Try.results64, go_sem]) rfl ⟨ret_wV Hfin.out, (Below.refl _ _).alloc (Nat.le_refl _) _⟩
      · have Hst := Lib.hid hst
        clear hst
        go_wp2_with (go_at_call 63; refine (dig_any _ _).mono ?_; rintro e w' ⟨rfl, rfl⟩)
        go_round
        case rel => exact ⟨k + 1, 10 * v + (s[k].toNat - 48), hrun, Hst.out, by omega, by go_num, by go_num⟩
        case measure => simp [intOf]; omega
    · have hcase : (∃ h : k < s.size, digB (s[k].toNat : Int) = false /\ letB (s[k].toNat : Int) = true) ∨ (∃ h : k < s.size, digB (s[k].toNat : Int) = false /\ letB (s[k].toNat : Int) = false) ∨ s.size <= k := by
        by_cases hlt : k < s.size
        · rcases Bool.eq_false_or_eq_true (digB (s[k].toNat : Int)) with hd | hd
          · exact absurd ⟨hlt, hd⟩ hin
          · rcases Bool.eq_false_or_eq_true (letB (s[k].toNat : Int)) with hl | hl
            · exact .inl ⟨hlt, hd, hl⟩
            · exact .inr (.inl ⟨hlt, hd, hl⟩)
        · exact .inr (.inr (by omega))
      clear hin
      have hn : lenOf digU (s.data.toList.drop p) = k - p := by
        rcases hcase with ⟨hlt, hd, _⟩ | ⟨hlt, hd, _⟩ | hge
        · exact hk.len (fun h => by rw [getD_eq s k h]; exact hd)
        · exact hk.len (fun h => by rw [getD_eq s k h]; exact hd)
        · exact hk.len (fun h => absurd h (by omega))
      have hval : val ((s.data.toList.drop p).take (k - p)) = v := Hv.out
      have hhd : (s.data.toList.drop p).headD 0 = s[p] := by rw [head_drop, getD_eq s p hp]
      have h48 : ∀ b : UInt8, b = 48 ↔ ((b.toNat : Int) == 48) = true := fun b => by
        rw [beq_iff_eq]
        constructor
        · rintro rfl; rfl
        · intro h; exact UInt8.toNat_inj.1 (by show b.toNat = 48; omega)
      by_cases hz : ((s[p].toNat : Int) == 48) = true /\ 1 < k - p
      · obtain ⟨hz1, hz2⟩ := hz
        have Hfin := Lib.hid (show numE (s.data.toList.drop p) = .error 3 by
          unfold numE
          rw [hn, if_pos (.inr (.inl ⟨hz2, by rw [hhd]; exact (h48 _).2 hz1⟩))])
        clear hn hval hhd h48
        rcases hcase with ⟨hlt, hd, _⟩ | ⟨hlt, hd, _⟩ | hge
        all_goals
          go_wp2_with (first | (go_at_call 61; refine (let_any _ _).mono ?_; rintro e w' ⟨rfl, rfl⟩) | (go_at_call 63; refine (dig_any _ _).mono ?_; rintro e w' ⟨rfl, rfl⟩))
          exact bodyPost_ret (v := .tuple #[.agg #[.int .i64 0, .string ⟨#[]⟩, .int .i64 0, .int .i64 0], .int .i64 3]) (by simp [results, Try.results64, go_sem]) rfl ⟨ret_wV Hfin.out, (Below.refl _ _).alloc (Nat.le_refl _) _⟩
      · have hz' : ((s[p].toNat : Int) == 48) = false ∨ (((s[p].toNat : Int) == 48) = true /\ k - p <= 1) := by
          rcases Bool.eq_false_or_eq_true ((s[p].toNat : Int) == 48) with h | h
          · exact .inr ⟨h, by have : ¬ 1 < k - p := fun hx => hz ⟨h, hx⟩; omega⟩
          · exact .inl h
        have hnz : ¬ (1 < k - p /\ (s.data.toList.drop p).headD 0 = 48) := fun hx => hz ⟨(h48 _).1 (by rw [← hhd]; exact hx.2), hx.1⟩
        have hgk : (s.data.toList.drop p).getD (k - p) 0 = s.data.toList.getD k 0 := by rw [getD_drop, show p + (k - p) = k from by omega]
        clear hz h48 hhd
        rcases hcase with ⟨hlt, hd, hl⟩ | hcase
        · have Hfin := Lib.hid (show numE (s.data.toList.drop p) = .error 3 by
            unfold numE
            rw [hn, if_pos (.inr (.inr (by rw [hgk, getD_eq s k hlt]; exact hl)))])
          clear hn hval hnz hgk
          rcases hz' with hz1 | ⟨hz1, hz2⟩
          all_goals
            go_wp2_with (first | (go_at_call 61; refine (let_any _ _).mono ?_; rintro e w' ⟨rfl, rfl⟩) | (go_at_call 63; refine (dig_any _ _).mono ?_; rintro e w' ⟨rfl, rfl⟩))
            exact bodyPost_ret (v := .tuple #[.agg #[.int .i64 0, .string ⟨#[]⟩, .int .i64 0, .int .i64 0], .int .i64 3]) (by simp [results, Try.results64, go_sem]) rfl ⟨ret_wV Hfin.out, (Below.refl _ _).alloc (Nat.le_refl _) _⟩
        · have hnl : ¬ letU ((s.data.toList.drop p).getD (k - p) 0) = true := by
            rw [hgk]
            rcases hcase with ⟨hlt, hd, hl⟩ | hge
            · rw [getD_eq s k hlt]; show ¬ letB _ = true; rw [hl]; decide
            · rw [List.getD_eq_getElem?_getD, List.getElem?_eq_none (by simpa using hge)]; decide
          have Hfin := Lib.hid (show numE (s.data.toList.drop p) = .ok (2, k - p, (v : Int)) by
            unfold numE
            rw [hn, hval, if_neg (fun h => h.elim (fun h => by omega) (fun h => h.elim hnz hnl))])
          clear hn hval hnz hgk hnl
          rcases hcase with ⟨hlt, hd, hl⟩ | hge
          all_goals
            rcases hz' with hz1 | ⟨hz1, hz2⟩
            all_goals
              go_wp2_with (first | (go_at_call 61; refine (let_any _ _).mono ?_; rintro e w' ⟨rfl, rfl⟩) | (go_at_call 63; refine (dig_any _ _).mono ?_; rintro e w' ⟨rfl, rfl⟩))
              exact bodyPost_ret (v := .tuple #[.agg #[.int .i64 2, .string (s.extract p k), .int .i64 v, .int .i64 p], .int .i64 0]) (by simp [results, Try.results64, go_sem]) rfl ⟨ret_wOk Hfin.out (by omega), (Below.refl _ _).alloc (Nat.le_refl _) _⟩
end Go.Proofs.Ytbhbjhejkamlnaa
namespace Go.Proofs.Ytbhbjhejkamlnaa
open Go.RowKit
theorem nameAt_err (s : ByteArray) (p : Nat) (w : World) (hs : s.size <= maxLen) (hp : p < s.size) {x : Int} (h : nameE (s.data.toList.drop p) = .error x) :
    Calls Try.prog 62 #[.string s, .int .i64 p] w fun e w' => e = .returned (.tuple #[.agg #[.int .i64 0, .string ⟨#[]⟩, .int .i64 0, .int .i64 0], .int .i64 x]) /\ Below w.heap.size w w' :=
  (nameAt_any s p w hs hp).mono fun e w' ⟨he, hb⟩ => ⟨by rw [he, h]; rfl, hb⟩
theorem nameAt_ok (s : ByteArray) (p : Nat) (w : World) (hs : s.size <= maxLen) (hp : p < s.size) {k m : Int} {n : Nat} {T : ByteArray} (hT : s.extract p (p + n) = T) (h : nameE (s.data.toList.drop p) = .ok (k, n, m)) :
    Calls Try.prog 62 #[.string s, .int .i64 p] w fun e w' => e = .returned (.tuple #[.agg #[.int .i64 k, .string T, .int .i64 m, .int .i64 p], .int .i64 0]) /\ Below w.heap.size w w' :=
  (nameAt_any s p w hs hp).mono fun e w' ⟨he, hb⟩ => ⟨by rw [he, h, ← hT]; rfl, hb⟩
theorem numAt_err (s : ByteArray) (p : Nat) (w : World) (hs : s.size <= maxLen) (hp : p < s.size) {x : Int} (h : numE (s.data.toList.drop p) = .error x) :
    Calls Try.prog 64 #[.string s, .int .i64 p] w fun e w' => e = .returned (.tuple #[.agg #[.int .i64 0, .string ⟨#[]⟩, .int .i64 0, .int .i64 0], .int .i64 x]) /\ Below w.heap.size w w' :=
  (numAt_any s p w hs hp).mono fun e w' ⟨he, hb⟩ => ⟨by rw [he, h]; rfl, hb⟩
theorem numAt_ok (s : ByteArray) (p : Nat) (w : World) (hs : s.size <= maxLen) (hp : p < s.size) {k m : Int} {n : Nat} {T : ByteArray} (hT : s.extract p (p + n) = T) (h : numE (s.data.toList.drop p) = .ok (k, n, m)) :
    Calls Try.prog 64 #[.string s, .int .i64 p] w fun e w' => e = .returned (.tuple #[.agg #[.int .i64 k, .string T, .int .i64 m, .int .i64 p], .int .i64 0]) /\ Below w.heap.size w w' :=
  (numAt_any s p w hs hp).mono fun e w' ⟨he, hb⟩ => ⟨by rw [he, h, ← hT]; rfl, hb⟩
theorem data_from (s : ByteArray) (p : Nat) : (s.extract p s.size).data.toList = s.data.toList.drop p := by
  rw [Lib.extract_data, List.take_of_length_le]
  simp
theorem sgn_at (s : ByteArray) (p : Nat) (w : World) (hp : p < s.size) {n : Nat} (hn : sgnLen (s.data.toList.drop p) = n) :
    Calls Try.prog 65 #[.string (s.extract p s.size)] w fun e w' => e = .returned (.int .i64 n) /\ w = w' := by
  have h0 : 0 < (s.extract p s.size).size := by simp; omega
  refine (sgn_any (s.extract p s.size) w h0).mono fun e w' ⟨he, hb⟩ => ⟨he.trans (ret_i64 ?_), hb⟩
  rw [← hn, ← data_from]
  unfold sgnLen
  congr 2
  rw [List.headD_eq_head?_getD, List.head?_eq_getElem?, List.getElem?_eq_getElem (by simpa using h0)]
  rfl
theorem bcell {W w1 : World} (hb : Below W.heap.size W w1) : (∀ b o, b < W.heap.size -> w1.cell? ⟨b, o, none⟩ = W.cell? ⟨b, o, none⟩) /\ (∀ b o, b < W.heap.size -> w1.frozen? ⟨b, o, none⟩ = W.frozen? ⟨b, o, none⟩) :=
  ⟨fun b o h => hb.cell (p := ⟨b, o, none⟩) h, fun b o h => hb.frozen (p := ⟨b, o, none⟩) h⟩
set_option maxHeartbeats 2000000 in
theorem wordAt_name_err (s : ByteArray) (p : Nat) (w : World) (hs : s.size <= maxLen) (hp : p < s.size) (hl : letB (s[p].toNat : Int) = true) {x : Int} (hx : nameE (s.data.toList.drop p) = .error x) :
    Calls Try.prog 35 #[.string s, .int .i64 p] w fun e w' => e = .returned (.tuple #[.agg #[.int .i64 0, .string ⟨#[]⟩, .int .i64 0, .int .i64 0], .int .i64 x]) /\ Below w.heap.size w w' := by
  have Hx := Lib.hid hx
  clear hx
  have hs' := hs
  unfold maxLen at hs
  go_enter Try.func35, Try.ntmps35
  go_wp2_with (first | (go_at_call 61; refine (let_any _ _).mono ?_; rintro e w' ⟨rfl, rfl⟩) | (go_at_call 63; refine (dig_any _ _).mono ?_; rintro e w' ⟨rfl, rfl⟩))
  refine (nameAt_err s p _ hs' hp Hx.out).mono ?_
  rintro e w1 ⟨rfl, hb⟩
  obtain ⟨hc, hf⟩ := bcell hb
  have hz : w.heap.size < w1.heap.size := by have := hb.size; simp at this; omega
  go_wp2
  exact bodyPost_ret (v := .tuple #[.agg #[.int .i64 0, .string ⟨#[]⟩, .int .i64 0, .int .i64 0], .int .i64 x]) (by simp [results, Try.results35, go_sem, hc]) rfl ⟨rfl, (((((Below.refl _ _).alloc (Nat.le_refl _) _).trans (hb.mono (by simp))).setCell (by simp) _).setCell (by simp) _).setCell (by simp) _ |>.setCell (by simp) _⟩
set_option maxHeartbeats 2000000 in
theorem wordAt_name_ok (s : ByteArray) (p : Nat) (w : World) (hs : s.size <= maxLen) (hp : p < s.size) (hl : letB (s[p].toNat : Int) = true) {k m : Int} {n : Nat} {T : ByteArray} (hT : s.extract p (p + n) = T) (hx : nameE (s.data.toList.drop p) = .ok (k, n, m)) :
    Calls Try.prog 35 #[.string s, .int .i64 p] w fun e w' => e = .returned (.tuple #[.agg #[.int .i64 k, .string T, .int .i64 m, .int .i64 p], .int .i64 0]) /\ Below w.heap.size w w' := by
  have Hx := Lib.hid hx
  clear hx
  have HT := Lib.hid hT
  clear hT
  have hs' := hs
  unfold maxLen at hs
  go_enter Try.func35, Try.ntmps35
  go_wp2_with (first | (go_at_call 61; refine (let_any _ _).mono ?_; rintro e w' ⟨rfl, rfl⟩) | (go_at_call 63; refine (dig_any _ _).mono ?_; rintro e w' ⟨rfl, rfl⟩))
  refine (nameAt_ok s p _ hs' hp HT.out Hx.out).mono ?_
  rintro e w1 ⟨rfl, hb⟩
  obtain ⟨hc, hf⟩ := bcell hb
  have hz : w.heap.size < w1.heap.size := by have := hb.size; simp at this; omega
  go_wp2
  exact bodyPost_ret (v := .tuple #[.agg #[.int .i64 k, .string T, .int .i64 m, .int .i64 p], .int .i64 0]) (by simp [results, Try.results35, go_sem, hc]) rfl ⟨rfl, (((((Below.refl _ _).alloc (Nat.le_refl _) _).trans (hb.mono (by simp))).setCell (by simp) _).setCell (by simp) _).setCell (by simp) _ |>.setCell (by simp) _⟩
set_option maxHeartbeats 2000000 in
theorem wordAt_num_err (s : ByteArray) (p : Nat) (w : World) (hs : s.size <= maxLen) (hp : p < s.size) (hl : letB (s[p].toNat : Int) = false) (hd : digB (s[p].toNat : Int) = true) {x : Int} (hx : numE (s.data.toList.drop p) = .error x) :
    Calls Try.prog 35 #[.string s, .int .i64 p] w fun e w' => e = .returned (.tuple #[.agg #[.int .i64 0, .string ⟨#[]⟩, .int .i64 0, .int .i64 0], .int .i64 x]) /\ Below w.heap.size w w' := by
  have Hx := Lib.hid hx
  clear hx
  have hs' := hs
  unfold maxLen at hs
  go_enter Try.func35, Try.ntmps35
  go_wp2_with (first | (go_at_call 61; refine (let_any _ _).mono ?_; rintro e w' ⟨rfl, rfl⟩) | (go_at_call 63; refine (dig_any _ _).mono ?_; rintro e w' ⟨rfl, rfl⟩))
  refine (numAt_err s p _ hs' hp Hx.out).mono ?_
  rintro e w1 ⟨rfl, hb⟩
  obtain ⟨hc, hf⟩ := bcell hb
  have hz : w.heap.size < w1.heap.size := by have := hb.size; simp at this; omega
  go_wp2
  exact bodyPost_ret (v := .tuple #[.agg #[.int .i64 0, .string ⟨#[]⟩, .int .i64 0, .int .i64 0], .int .i64 x]) (by simp [results, Try.results35, go_sem, hc]) rfl ⟨rfl, (((((Below.refl _ _).alloc (Nat.le_refl _) _).trans (hb.mono (by simp))).setCell (by simp) _).setCell (by simp) _).setCell (by simp) _ |>.setCell (by simp) _⟩
set_option maxHeartbeats 2000000 in
theorem wordAt_num_ok (s : ByteArray) (p : Nat) (w : World) (hs : s.size <= maxLen) (hp : p < s.size) (hl : letB (s[p].toNat : Int) = false) (hd : digB (s[p].toNat : Int) = true) {k m : Int} {n : Nat} {T : ByteArray} (hT : s.extract p (p + n) = T) (hx : numE (s.data.toList.drop p) = .ok (k, n, m)) :
    Calls Try.prog 35 #[.string s, .int .i64 p] w fun e w' => e = .returned (.tuple #[.agg #[.int .i64 k, .string T, .int .i64 m, .int .i64 p], .int .i64 0]) /\ Below w.heap.size w w' := by
  have Hx := Lib.hid hx
  clear hx
  have HT := Lib.hid hT
  clear hT
  have hs' := hs
  unfold maxLen at hs
  go_enter Try.func35, Try.ntmps35
  go_wp2_with (first | (go_at_call 61; refine (let_any _ _).mono ?_; rintro e w' ⟨rfl, rfl⟩) | (go_at_call 63; refine (dig_any _ _).mono ?_; rintro e w' ⟨rfl, rfl⟩))
  refine (numAt_ok s p _ hs' hp HT.out Hx.out).mono ?_
  rintro e w1 ⟨rfl, hb⟩
  obtain ⟨hc, hf⟩ := bcell hb
  have hz : w.heap.size < w1.heap.size := by have := hb.size; simp at this; omega
  go_wp2
  exact bodyPost_ret (v := .tuple #[.agg #[.int .i64 k, .string T, .int .i64 m, .int .i64 p], .int .i64 0]) (by simp [results, Try.results35, go_sem, hc]) rfl ⟨rfl, (((((Below.refl _ _).alloc (Nat.le_refl _) _).trans (hb.mono (by simp))).setCell (by simp) _).setCell (by simp) _).setCell (by simp) _ |>.setCell (by simp) _⟩
set_option maxHeartbeats 2000000 in
theorem wordAt_sgn_err (s : ByteArray) (p : Nat) (w : World) (hs : s.size <= maxLen) (hp : p < s.size) (hl : letB (s[p].toNat : Int) = false) (hd : digB (s[p].toNat : Int) = false) (hx : sgnLen (s.data.toList.drop p) = 0) :
    Calls Try.prog 35 #[.string s, .int .i64 p] w fun e w' => e = .returned (.tuple #[.agg #[.int .i64 0, .string ⟨#[]⟩, .int .i64 0, .int .i64 0], .int .i64 2]) /\ Below w.heap.size w w' := by
  have Hx := Lib.hid hx
  clear hx
  have hs1 := hs
  clear hs
  unfold maxLen at hs1
  go_enter Try.func35, Try.ntmps35
  go_wp2_with (first | (go_at_call 61; refine (let_any _ _).mono ?_; rintro e w' ⟨rfl, rfl⟩) | (go_at_call 63; refine (dig_any _ _).mono ?_; rintro e w' ⟨rfl, rfl⟩))
  refine (sgn_at s p _ hp Hx.out).mono ?_
  rintro e w1 ⟨rfl, rfl⟩
  go_wp2
  exact bodyPost_ret (v := .tuple #[.agg #[.int .i64 0, .string ⟨#[]⟩, .int .i64 0, .int .i64 0], .int .i64 2]) (by simp [results, Try.results35, go_sem]) rfl ⟨rfl, (Below.refl _ _).alloc (Nat.le_refl _) _⟩
set_option maxHeartbeats 2000000 in
theorem wordAt_sgn_ok (s : ByteArray) (p : Nat) (w : World) (hs : s.size <= maxLen) (hp : p < s.size) (hl : letB (s[p].toNat : Int) = false) (hd : digB (s[p].toNat : Int) = false) {n : Nat} (hn : 1 <= n) (hpn : p + n <= s.size) {T : ByteArray} (hT : s.extract p (p + n) = T) (hx : sgnLen (s.data.toList.drop p) = n) :
    Calls Try.prog 35 #[.string s, .int .i64 p] w fun e w' => e = .returned (.tuple #[.agg #[.int .i64 3, .string T, .int .i64 0, .int .i64 p], .int .i64 0]) /\ Below w.heap.size w w' := by
  have Hx := Lib.hid hx
  clear hx
  have hnz : ((n : Int) == 0) = false := by rw [beq_eq_false_iff_ne]; omega
  unfold maxLen at hs
  go_enter Try.func35, Try.ntmps35
  go_wp2_with (first | (go_at_call 61; refine (let_any _ _).mono ?_; rintro e w' ⟨rfl, rfl⟩) | (go_at_call 63; refine (dig_any _ _).mono ?_; rintro e w' ⟨rfl, rfl⟩))
  refine (sgn_at s p _ hp Hx.out).mono ?_
  rintro e w1 ⟨rfl, rfl⟩
  go_wp2
  exact bodyPost_ret (v := .tuple #[.agg #[.int .i64 3, .string T, .int .i64 0, .int .i64 p], .int .i64 0]) (by simp [results, Try.results35, go_sem]) rfl ⟨rfl, (Below.refl _ _).alloc (Nat.le_refl _) _⟩
theorem wordAt_err (s : ByteArray) (p : Nat) (w : World) (hs : s.size <= maxLen) (hp : p < s.size) {x : Int} (h : wordE (s.data.toList.drop p) = .error x) :
    Calls Try.prog 35 #[.string s, .int .i64 p] w fun e w' => e = .returned (.tuple #[.agg #[.int .i64 0, .string ⟨#[]⟩, .int .i64 0, .int .i64 0], .int .i64 x]) /\ Below w.heap.size w w' := by
  have hh : (s.data.toList.drop p).headD 0 = s[p] := by rw [head_drop, getD_eq s p hp]
  unfold wordE at h
  rw [hh] at h
  rcases Bool.eq_false_or_eq_true (letB (s[p].toNat : Int)) with hl | hl
  · rw [if_pos (show letU s[p] = true from hl)] at h
    exact wordAt_name_err s p w hs hp hl h
  · rw [if_neg (show ¬ letU s[p] = true by show ¬ letB _ = true; rw [hl]; decide)] at h
    rcases Bool.eq_false_or_eq_true (digB (s[p].toNat : Int)) with hd | hd
    · rw [if_pos (show digU s[p] = true from hd)] at h
      exact wordAt_num_err s p w hs hp hl hd h
    · rw [if_neg (show ¬ digU s[p] = true by show ¬ digB _ = true; rw [hd]; decide)] at h
      unfold sgnE at h
      by_cases hz : sgnLen (s.data.toList.drop p) = 0
      · rw [if_pos hz] at h
        injection h with h
        subst h
        exact wordAt_sgn_err s p w hs hp hl hd hz
      · rw [if_neg hz] at h; cases h
theorem wordAt_ok (s : ByteArray) (p : Nat) (w : World) (hs : s.size <= maxLen) (hp : p < s.size) {k m : Int} {n : Nat} {T : ByteArray} (hT : s.extract p (p + n) = T) (h : wordE (s.data.toList.drop p) = .ok (k, n, m)) :
    Calls Try.prog 35 #[.string s, .int .i64 p] w fun e w' => e = .returned (.tuple #[.agg #[.int .i64 k, .string T, .int .i64 m, .int .i64 p], .int .i64 0]) /\ Below w.heap.size w w' := by
  have hh : (s.data.toList.drop p).headD 0 = s[p] := by rw [head_drop, getD_eq s p hp]
  have hlen : (s.data.toList.drop p).length = s.size - p := by simp
  have hok := wordE_ok (by rw [hlen]; omega) h
  rw [hlen] at hok
  unfold wordE at h
  rw [hh] at h
  rcases Bool.eq_false_or_eq_true (letB (s[p].toNat : Int)) with hl | hl
  · rw [if_pos (show letU s[p] = true from hl)] at h
    exact wordAt_name_ok s p w hs hp hl hT h
  · rw [if_neg (show ¬ letU s[p] = true by show ¬ letB _ = true; rw [hl]; decide)] at h
    rcases Bool.eq_false_or_eq_true (digB (s[p].toNat : Int)) with hd | hd
    · rw [if_pos (show digU s[p] = true from hd)] at h
      exact wordAt_num_ok s p w hs hp hl hd hT h
    · rw [if_neg (show ¬ digU s[p] = true by show ¬ digB _ = true; rw [hd]; decide)] at h
      unfold sgnE at h
      by_cases hz : sgnLen (s.data.toList.drop p) = 0
      · rw [if_pos hz] at h; cases h
      · rw [if_neg hz] at h
        injection h with h; injection h with h1 h; injection h with h2 h3
        subst h1; subst h3
        exact wordAt_sgn_ok s p w hs hp hl hd hok.1 (by omega) hT h2
end Go.Proofs.Ytbhbjhejkamlnaa

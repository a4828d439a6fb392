import Derived.Test.YtbhbjhejkamlnaaZ16
import Derived.Test.YtbhbjhejkamlnaaZ15
import Derived.Deep.QuietTactic
import Derived.BigQuiet
import Derived.Laws.IdiomStrings
import Derived.Deep.CutBlock
import Derived.Deep.DeepCutAuto
import Derived.RegionTactic
import Derived.Deep.LoopGhost
namespace Go.Proofs.Ytbhbjhejkamlnaa.Sx.Z
open Go.RowKit
def wtR : Nat -> PB
  | 0 => fun _ _ _ r => (.l [], r)
  | m + 1 => wtA (wtR m)
theorem wtR_er : ∀ (m : Nat) (en : Int) (ws : D) (dp : Int) (r : Rd), (wtR m en ws dp r).2.er = 0 -> r.er = 0
  | 0, _, _, _, _, h => h
  | m + 1, en, ws, dp, r, h => wtA_er en ws dp r h
theorem wtR_up : ∀ (m : Nat) (en : Int) (ws : D) (dp : Int), PbOK ws (wtR m en ws dp)
  | 0, _, _, _ => ⟨fun _ h => ⟨Int.le_refl _, h⟩⟩
  | m + 1, en, ws, dp => wtA_up (wtR_up m) (wtR_er m) en ws dp
theorem wst_zero {F : PB} : ConOK Try.prog 21 (wstC F 0) := by
  refine ⟨fun _ _ => by kernel_rfl, fun hp fr args e he hv => ?_, fun hp fr caps e h => by cases h⟩
  exfalso
  obtain ⟨ds, e1, sg, ps1, ps2, hs, hvc, _⟩ := conM_in he
  rw [hvc] at hv
  obtain ⟨_, hv⟩ := all_append.1 hv
  obtain ⟨_, hv⟩ := all_append.1 hv
  unfold wstS at hs
  split at hs
  · simp only [Option.some.injEq, Prod.mk.injEq] at hs
    obtain ⟨rfl, rfl⟩ := hs
    exact Nat.not_lt_zero _ hv.2.2.1
  · cases hs
theorem wst_all : ∀ m, ConOK Try.prog 21 (wstC (wtR m) m)
  | 0 => wst_zero
  | m + 1 => wsn_ok (P := wtR m) (m := m) (wst_all m) (wtR_up m) (wtR_er m)
def wtX : PB := wtR 1000001
theorem wtX_ok : ConOK Try.prog 21 (wstC wtX 1000001) := wst_all 1000001
theorem wtX_up (en : Int) (ws : D) (dp : Int) : PbOK ws (wtX en ws dp) := wtR_up 1000001 en ws dp
attribute [irreducible] wtX
def sgK : D := .l [[.s kwB], [.s kwD], [.s kwY]]
def wk0 (ws : D) (en : Int) (r : Rd) : Rd := wnR ws en 1 r
def wkK (ws : D) (en : Int) (r : Rd) : Int := ixR ws sgK (wk0 ws en r) 3
def wk1 (ws : D) (en : Int) (r : Rd) : Rd := gx (wk0 ws en r)
def wk2 (ws : D) (en : Int) (r : Rd) : Rd := muR ws en kwO (wnR ws en 2 (wk1 ws en r))
def wk3 (ws : D) (en : Int) (r : Rd) : Rd := muR ws en kwT (wnR ws en 1 (wk2 ws en r))
def wk4 (ws : D) (en : Int) (r : Rd) : Rd := muR ws en obB (wnR ws en 1 (wk3 ws en r))
def wkG (t : ByteArray) (ws : D) (r : Rd) : Bool := isB ws t r
def wkF (ws : D) (en : Int) (r : Rd) : List D × Rd := ([.s (wnS ws (gx r))], wnR ws en 1 (gx r))
def wkT (ws : D) (en : Int) (r : Rd) : D × Rd := seqA (wkG coB ws) (wkF ws en) ws (.l [[.s (wnS ws (wk4 ws en r))]]) (wnR ws en 1 (wk4 ws en r))
def wkZ (ws : D) (en : Int) (r : Rd) : Ch := if wkK ws en r < 0 then ⟨wnS ws r, wkK ws en r, 0, ByteArray.empty, ByteArray.empty, .l []⟩ else ⟨wnS ws r, wkK ws en r, wnN ws (wk1 ws en r), wnS ws (wk2 ws en r), wnS ws (wk3 ws en r), (wkT ws en r).1⟩
def wkR (ws : D) (en : Int) (r : Rd) : Rd := if wkK ws en r < 0 then ffR ws en 5 (wk0 ws en r) else muR ws en seB (muR ws en cbB (wkT ws en r).2)
theorem wk_sq {ws : D} (en : Int) : SqOK ws (wkG coB ws) (wkF ws en) := ⟨fun r h hg => by
  have g := gx_up h (isB_lt hg).2
  have b := wn_up en 1 g.1
  have e : (gx r).nx = r.nx + 1 := rfl
  have b2 : (gx r).nx <= (wkF ws en r).2.nx := b.2
  exact ⟨b.1, by omega⟩⟩
theorem wk_up {ws : D} (en : Int) {r : Rd} (h : rdOK ws (wk1 ws en r).nx) : (rdOK ws (wnR ws en 2 (wk1 ws en r)).nx /\ rdOK ws (wk2 ws en r).nx /\ rdOK ws (wnR ws en 1 (wk2 ws en r)).nx /\ rdOK ws (wk3 ws en r).nx /\ rdOK ws (wnR ws en 1 (wk3 ws en r)).nx /\ rdOK ws (wk4 ws en r).nx /\ rdOK ws (wnR ws en 1 (wk4 ws en r)).nx) /\ rdOK ws (wkT ws en r).2.nx /\ rdOK ws (muR ws en cbB (wkT ws en r).2).nx /\ rdOK ws (muR ws en seB (muR ws en cbB (wkT ws en r).2)).nx /\ (wk1 ws en r).nx <= (muR ws en seB (muR ws en cbB (wkT ws en r).2)).nx := by
  have c := wn_up en 2 h
  have d := mu_up en (t := kwO) c.1
  have e := wn_up en 1 d.1
  have f := mu_up en (t := kwT) e.1
  have g := wn_up en 1 f.1
  have i := mu_up en (t := obB) g.1
  have j := wn_up en 1 i.1
  have k := seq_up (wk_sq en) (.l [[.s (wnS ws (wk4 ws en r))]]) j.1
  have l := mu_up en (t := cbB) k.1
  have m := mu_up en (t := seB) l.1
  exact ⟨⟨c.1, d.1, e.1, f.1, g.1, i.1, j.1⟩, k.1, l.1, m.1, Int.le_trans c.2 (Int.le_trans d.2 (Int.le_trans e.2 (Int.le_trans f.2 (Int.le_trans g.2 (Int.le_trans i.2 (Int.le_trans j.2 (Int.le_trans k.2 (Int.le_trans l.2 m.2))))))))⟩
theorem wkR_up {ws : D} (en : Int) {r : Rd} (h : rdOK ws r.nx) : rdOK ws (wkR ws en r).nx /\ r.nx <= (wkR ws en r).nx := by
  have a := wn_up en 1 h
  unfold wkR
  split
  · have := ff_up en 5 a.1
    exact ⟨this.1, Int.le_trans a.2 this.2⟩
  · rename_i hk
    have hx := ix_lt (ws := ws) (sg := sgK) (r := wk0 ws en r) 3 (by unfold wkK at hk; omega)
    have g := gx_up a.1 hx.2.1
    have w := (wk_up en (r := r) g.1).2.2.2
    exact ⟨w.1, Int.le_trans a.2 (Int.le_trans g.2 w.2)⟩
noncomputable def wchS : List Dat -> Option (Eff × List Seg) := fun ds => match ds with
  | [.d ws, .i nx, .i en, .i er, .i pa] => some ({ val := .one (.agg [.c (.raw (.string ((wkZ ws en (mR nx pa er)).nm))), .c (.int .i64 (.sym ((wkZ ws en (mR nx pa er)).k))), .c (.int .i64 (.sym ((wkZ ws en (mR nx pa er)).n))), .c (.raw (.string ((wkZ ws en (mR nx pa er)).fr))), .c (.raw (.string ((wkZ ws en (mR nx pa er)).to))), .c (.osl 9 0 (.lit 0) (.sym ((wkZ ws en (mR nx pa er)).tg.len)))]), vc := [rdOK ws nx], nw := [(0, .orow 9 ((wkZ ws en (mR nx pa er)).tg))] }, [.c (.rows 123 ws), .c (.int .i64 (.sym ((wkR ws en (mR nx pa er)).nx))), .c (.int .i64 (.sym en)), .c (.int .i64 (.sym ((wkR ws en (mR nx pa er)).er))), .c (.int .i64 (.sym ((wkR ws en (mR nx pa er)).pa)))])
  | _ => none
noncomputable def wchC : Con := conM 71 [.c (.rows 123), .c (.int .i64), .c (.int .i64), .c (.int .i64), .c (.int .i64)] [] wchS
theorem wch_ok : ConOK Try.prog 17 wchC := by
  refine fn_obM tt_ok mixed Try.func17 rfl (fun _ _ => by kernel_rfl) (A := fun ds => ⟨fun _ => Cons.of [(18, wnaC), (16, wiqC), (20, wnuC), (19, wmuC), (22, wfaC)], fun k => match k, ds with | 4, [.d ws, .i nx, .i en, .i er, .i pa] => some { ι := Nat, pre := fun _ i => i <= 3 /\ True, μ := fun i => 4 - i, st := fun s i => famR s [(5, .one (.sc (.int .i64 (.sym ((i : Nat))))))] [0, 2, 3, 4] [(0, .own 71 ([.c (.rows 123 ws), .c (.int .i64 (.sym (((wk0 ws en (mR nx pa er))).nx))), .c (.int .i64 (.sym en)), .c (.int .i64 (.sym (((wk0 ws en (mR nx pa er))).er))), .c (.int .i64 (.sym (((wk0 ws en (mR nx pa er))).pa)))])), (idOf s 3, .own 73 ([.c (.raw (.string (wnS ws (mR nx pa er)))), .c (.int .i64 (.sym (ixR ws sgK (wk0 ws en (mR nx pa er)) i))), .c (.int .i64 (.sym (0))), .c (.raw (.string (ByteArray.empty))), .c (.raw (.string (ByteArray.empty))), .c .nils]))] [2, 4] } | 19, [.d ws, .i nx, .i en, .i er, .i pa] => some { ι := D × Rd, pre := fun _ q => rdOK ws q.2.nx /\ (seqA (wkG coB ws) (wkF ws en) ws q.1 q.2 = wkT ws en (mR nx pa er)) /\ q.1.len + left ws q.2 <= 1000001, μ := fun q => left ws q.2, st := fun s q => famR s [] [0, 2, 3] [(0, .own 71 ([.c (.rows 123 ws), .c (.int .i64 (.sym ((q.2).nx))), .c (.int .i64 (.sym en)), .c (.int .i64 (.sym ((q.2).er))), .c (.int .i64 (.sym ((q.2).pa)))])), (idOf s 3, .own 73 ([.c (.raw (.string (wnS ws (mR nx pa er)))), .c (.int .i64 (.sym (wkK ws en (mR nx pa er)))), .c (.int .i64 (.sym (wnN ws (wk1 ws en (mR nx pa er))))), .c (.raw (.string (wnS ws (wk2 ws en (mR nx pa er))))), .c (.raw (.string (wnS ws (wk3 ws en (mR nx pa er))))), .c (.osl 9 (cellIdP s 3 5) (.lit 0) (.sym (q.1.len)))])), (cellIdP s 3 5, .orow 9 (q.1))] [2] } | _, _ => none, fun _ => none⟩) (fun _ _ => (cons_cons wna_ok (cons_cons wiq_ok (cons_cons wnu_ok (cons_cons wmu_ok (cons_cons wfa_ok cons_nil)))))) (by kernel_rfl) ?_
  intro ds
  unfold wchS
  split
  · rename_i ws nx en er pa
    refine kmp (q := rdOK ws nx -> rdOK ws nx /\ (∃ (i : Nat), (i <= 3 /\ True) /\ (0 : Int) = (↑i : Int) /\ 3 = 3 /\ ws.rows = ws.rows /\ (wnR ws en (1 : Int) (mR nx pa er)).nx = (wk0 ws en (mR nx pa er)).nx /\ en = en /\ (wnR ws en (1 : Int) (mR nx pa er)).er = (wk0 ws en (mR nx pa er)).er /\ (wnR ws en (1 : Int) (mR nx pa er)).pa = (wk0 ws en (mR nx pa er)).pa /\ Value.string (wnS ws (mR nx pa er)) = Value.string (wnS ws (mR nx pa er)) /\ (-1 : Int) = ixR ws sgK (wk0 ws en (mR nx pa er)) i /\ (0 : Int) = (0 : Int) /\ Value.string ByteArray.empty = Value.string ByteArray.empty /\ Value.string ByteArray.empty = Value.string ByteArray.empty /\ Value.string ByteArray.empty = Value.string ByteArray.empty /\ (0 : Int) = (0 : Int) /\ (0 : Int) = (0 : Int) /\ Value.string ByteArray.empty = Value.string ByteArray.empty /\ Value.string ByteArray.empty = Value.string ByteArray.empty /\ [[D.s kwB], [D.s kwD], [D.s kwY]] = [[D.s kwB], [D.s kwD], [D.s kwY]]) /\ ∀ (i : Nat), i <= 3 /\ True -> (decide ((↑i : Int) < (3 : Int)) = true -> ((0 : Int) <= (↑i : Int) /\ (↑i : Int) < (↑3 : Int)) /\ (↑i : Int).toNat < (D.l [[D.s kwB], [D.s kwD], [D.s kwY]]).len /\ rdOK ws (wk0 ws en (mR nx pa er)).nx /\ (isB ws ((D.l [[D.s kwB], [D.s kwD], [D.s kwY]]).el (↑i : Int).toNat (0 : Nat)).toS (wk0 ws en (mR nx pa er)) = true -> ∃ (j : Nat), (j <= 3 /\ True) /\ 4 - j < 4 - i /\ IntKind.i64.wrap ((↑i : Int) + 1) = (↑j : Int) /\ 3 = 3 /\ ws.rows = ws.rows /\ (wk0 ws en (mR nx pa er)).nx = (wk0 ws en (mR nx pa er)).nx /\ en = en /\ (wk0 ws en (mR nx pa er)).er = (wk0 ws en (mR nx pa er)).er /\ (wk0 ws en (mR nx pa er)).pa = (wk0 ws en (mR nx pa er)).pa /\ Value.string (wnS ws (mR nx pa er)) = Value.string (wnS ws (mR nx pa er)) /\ (↑i : Int) = ixR ws sgK (wk0 ws en (mR nx pa er)) j /\ (0 : Int) = (0 : Int) /\ Value.string ByteArray.empty = Value.string ByteArray.empty /\ Value.string ByteArray.empty = Value.string ByteArray.empty /\ Value.string ByteArray.empty = Value.string ByteArray.empty /\ (0 : Int) = (0 : Int) /\ (0 : Int) = (0 : Int) /\ Value.string ByteArray.empty = Value.string ByteArray.empty /\ Value.string ByteArray.empty = Value.string ByteArray.empty /\ [[D.s kwB], [D.s kwD], [D.s kwY]] = [[D.s kwB], [D.s kwD], [D.s kwY]]) /\ (isB ws ((D.l [[D.s kwB], [D.s kwD], [D.s kwY]]).el (↑i : Int).toNat (0 : Nat)).toS (wk0 ws en (mR nx pa er)) = false -> ∃ (j : Nat), (j <= 3 /\ True) /\ 4 - j < 4 - i /\ IntKind.i64.wrap ((↑i : Int) + 1) = (↑j : Int) /\ 3 = 3 /\ ws.rows = ws.rows /\ (wk0 ws en (mR nx pa er)).nx = (wk0 ws en (mR nx pa er)).nx /\ en = en /\ (wk0 ws en (mR nx pa er)).er = (wk0 ws en (mR nx pa er)).er /\ (wk0 ws en (mR nx pa er)).pa = (wk0 ws en (mR nx pa er)).pa /\ Value.string (wnS ws (mR nx pa er)) = Value.string (wnS ws (mR nx pa er)) /\ ixR ws sgK (wk0 ws en (mR nx pa er)) i = ixR ws sgK (wk0 ws en (mR nx pa er)) j /\ (0 : Int) = (0 : Int) /\ Value.string ByteArray.empty = Value.string ByteArray.empty /\ Value.string ByteArray.empty = Value.string ByteArray.empty /\ Value.string ByteArray.empty = Value.string ByteArray.empty /\ (0 : Int) = (0 : Int) /\ (0 : Int) = (0 : Int) /\ Value.string ByteArray.empty = Value.string ByteArray.empty /\ Value.string ByteArray.empty = Value.string ByteArray.empty /\ [[D.s kwB], [D.s kwD], [D.s kwY]] = [[D.s kwB], [D.s kwD], [D.s kwY]])) /\ (decide ((↑i : Int) < (3 : Int)) = false -> (decide (ixR ws sgK (wk0 ws en (mR nx pa er)) i < (0 : Int)) = true -> rdOK ws (wk0 ws en (mR nx pa er)).nx /\ Value.string (wnS ws (mR nx pa er)) = Value.string (wkZ ws en (mR nx pa er)).nm /\ ixR ws sgK (wk0 ws en (mR nx pa er)) i = (wkZ ws en (mR nx pa er)).k /\ (0 : Int) = (wkZ ws en (mR nx pa er)).n /\ Value.string ByteArray.empty = Value.string (wkZ ws en (mR nx pa er)).fr /\ Value.string ByteArray.empty = Value.string (wkZ ws en (mR nx pa er)).to /\ (wkZ ws en (mR nx pa er)).tg.len = 0 /\ ws.rows = ws.rows /\ (ffR ws en (5 : Int) (wk0 ws en (mR nx pa er))).nx = (wkR ws en (mR nx pa er)).nx /\ en = en /\ (ffR ws en (5 : Int) (wk0 ws en (mR nx pa er))).er = (wkR ws en (mR nx pa er)).er /\ (ffR ws en (5 : Int) (wk0 ws en (mR nx pa er))).pa = (wkR ws en (mR nx pa er)).pa /\ (wkZ ws en (mR nx pa er)).tg.rows = []) /\ (decide (ixR ws sgK (wk0 ws en (mR nx pa er)) i < (0 : Int)) = false -> rdOK ws (IntKind.i64.wrap ((wk0 ws en (mR nx pa er)).nx + 1)) /\ rdOK ws (wnR ws en (2 : Int) (mR (IntKind.i64.wrap ((wk0 ws en (mR nx pa er)).nx + 1)) (wk0 ws en (mR nx pa er)).pa (wk0 ws en (mR nx pa er)).er)).nx /\ rdOK ws (muR ws en kwO (wnR ws en (2 : Int) (mR (IntKind.i64.wrap ((wk0 ws en (mR nx pa er)).nx + 1)) (wk0 ws en (mR nx pa er)).pa (wk0 ws en (mR nx pa er)).er))).nx /\ rdOK ws (wnR ws en (1 : Int) (muR ws en kwO (wnR ws en (2 : Int) (mR (IntKind.i64.wrap ((wk0 ws en (mR nx pa er)).nx + 1)) (wk0 ws en (mR nx pa er)).pa (wk0 ws en (mR nx pa er)).er)))).nx /\ rdOK ws (muR ws en kwT (wnR ws en (1 : Int) (muR ws en kwO (wnR ws en (2 : Int) (mR (IntKind.i64.wrap ((wk0 ws en (mR nx pa er)).nx + 1)) (wk0 ws en (mR nx pa er)).pa (wk0 ws en (mR nx pa er)).er))))).nx /\ rdOK ws (wnR ws en (1 : Int) (muR ws en kwT (wnR ws en (1 : Int) (muR ws en kwO (wnR ws en (2 : Int) (mR (IntKind.i64.wrap ((wk0 ws en (mR nx pa er)).nx + 1)) (wk0 ws en (mR nx pa er)).pa (wk0 ws en (mR nx pa er)).er)))))).nx /\ rdOK ws (muR ws en obB (wnR ws en (1 : Int) (muR ws en kwT (wnR ws en (1 : Int) (muR ws en kwO (wnR ws en (2 : Int) (mR (IntKind.i64.wrap ((wk0 ws en (mR nx pa er)).nx + 1)) (wk0 ws en (mR nx pa er)).pa (wk0 ws en (mR nx pa er)).er))))))).nx /\ ((0 : Nat) + ((D.l [[D.s (wnS ws (muR ws en obB (wnR ws en (1 : Int) (muR ws en kwT (wnR ws en (1 : Int) (muR ws en kwO (wnR ws en (2 : Int) (mR (IntKind.i64.wrap ((wk0 ws en (mR nx pa er)).nx + 1)) (wk0 ws en (mR nx pa er)).pa (wk0 ws en (mR nx pa er)).er))))))))]]).sub 0 ((0 : Nat) + (1 : Nat))).len) * 16 <= 140737488355328 /\ 0 + 1 <= (D.l [[D.s (wnS ws (muR ws en obB (wnR ws en (1 : Int) (muR ws en kwT (wnR ws en (1 : Int) (muR ws en kwO (wnR ws en (2 : Int) (mR (IntKind.i64.wrap ((wk0 ws en (mR nx pa er)).nx + 1)) (wk0 ws en (mR nx pa er)).pa (wk0 ws en (mR nx pa er)).er))))))))]]).len /\ (∃ (i_1 : D × Rd), (rdOK ws i_1.snd.nx /\ seqA (wkG coB ws) (wkF ws en) ws i_1.fst i_1.snd = wkT ws en (mR nx pa er) /\ i_1.fst.len + left ws i_1.snd <= (1000001 : Nat)) /\ ws.rows = ws.rows /\ (wnR ws en (1 : Int) (muR ws en obB (wnR ws en (1 : Int) (muR ws en kwT (wnR ws en (1 : Int) (muR ws en kwO (wnR ws en (2 : Int) (mR (IntKind.i64.wrap ((wk0 ws en (mR nx pa er)).nx + 1)) (wk0 ws en (mR nx pa er)).pa (wk0 ws en (mR nx pa er)).er)))))))).nx = i_1.snd.nx /\ en = en /\ (wnR ws en (1 : Int) (muR ws en obB (wnR ws en (1 : Int) (muR ws en kwT (wnR ws en (1 : Int) (muR ws en kwO (wnR ws en (2 : Int) (mR (IntKind.i64.wrap ((wk0 ws en (mR nx pa er)).nx + 1)) (wk0 ws en (mR nx pa er)).pa (wk0 ws en (mR nx pa er)).er)))))))).er = i_1.snd.er /\ (wnR ws en (1 : Int) (muR ws en obB (wnR ws en (1 : Int) (muR ws en kwT (wnR ws en (1 : Int) (muR ws en kwO (wnR ws en (2 : Int) (mR (IntKind.i64.wrap ((wk0 ws en (mR nx pa er)).nx + 1)) (wk0 ws en (mR nx pa er)).pa (wk0 ws en (mR nx pa er)).er)))))))).pa = i_1.snd.pa /\ Value.string (wnS ws (mR nx pa er)) = Value.string (wnS ws (mR nx pa er)) /\ ixR ws sgK (wk0 ws en (mR nx pa er)) i = wkK ws en (mR nx pa er) /\ wnN ws (mR (IntKind.i64.wrap ((wk0 ws en (mR nx pa er)).nx + 1)) (wk0 ws en (mR nx pa er)).pa (wk0 ws en (mR nx pa er)).er) = wnN ws (wk1 ws en (mR nx pa er)) /\ Value.string (wnS ws (muR ws en kwO (wnR ws en (2 : Int) (mR (IntKind.i64.wrap ((wk0 ws en (mR nx pa er)).nx + 1)) (wk0 ws en (mR nx pa er)).pa (wk0 ws en (mR nx pa er)).er)))) = Value.string (wnS ws (wk2 ws en (mR nx pa er))) /\ Value.string (wnS ws (muR ws en kwT (wnR ws en (1 : Int) (muR ws en kwO (wnR ws en (2 : Int) (mR (IntKind.i64.wrap ((wk0 ws en (mR nx pa er)).nx + 1)) (wk0 ws en (mR nx pa er)).pa (wk0 ws en (mR nx pa er)).er)))))) = Value.string (wnS ws (wk3 ws en (mR nx pa er))) /\ 1 = i_1.fst.len /\ [] ++ List.drop 0 (List.take ((0 : Nat) + (1 : Nat)) [[D.s (wnS ws (muR ws en obB (wnR ws en (1 : Int) (muR ws en kwT (wnR ws en (1 : Int) (muR ws en kwO (wnR ws en (2 : Int) (mR (IntKind.i64.wrap ((wk0 ws en (mR nx pa er)).nx + 1)) (wk0 ws en (mR nx pa er)).pa (wk0 ws en (mR nx pa er)).er))))))))]]) = i_1.fst.rows /\ Value.string ByteArray.empty = Value.string ByteArray.empty /\ (0 : Int) = (0 : Int) /\ (0 : Int) = (0 : Int) /\ Value.string ByteArray.empty = Value.string ByteArray.empty /\ Value.string ByteArray.empty = Value.string ByteArray.empty) /\ ∀ (i : D × Rd), rdOK ws i.snd.nx /\ seqA (wkG coB ws) (wkF ws en) ws i.fst i.snd = wkT ws en (mR nx pa er) /\ i.fst.len + left ws i.snd <= 1000001 -> rdOK ws i.snd.nx /\ (isB ws coB i.snd = true -> rdOK ws (IntKind.i64.wrap (i.snd.nx + 1)) /\ i.fst.len = i.fst.len /\ (i.fst.len + ((D.l [[D.s (wnS ws (mR (IntKind.i64.wrap (i.snd.nx + 1)) i.snd.pa i.snd.er))]]).sub 0 ((0 : Nat) + (1 : Nat))).len) * 16 <= 140737488355328 /\ 0 + 1 <= (D.l [[D.s (wnS ws (mR (IntKind.i64.wrap (i.snd.nx + 1)) i.snd.pa i.snd.er))]]).len /\ ∃ (j : D × Rd), (rdOK ws j.snd.nx /\ seqA (wkG coB ws) (wkF ws en) ws j.fst j.snd = wkT ws en (mR nx pa er) /\ j.fst.len + left ws j.snd <= (1000001 : Nat)) /\ left ws j.snd < left ws i.snd /\ ws.rows = ws.rows /\ (wnR ws en (1 : Int) (mR (IntKind.i64.wrap (i.snd.nx + 1)) i.snd.pa i.snd.er)).nx = j.snd.nx /\ en = en /\ (wnR ws en (1 : Int) (mR (IntKind.i64.wrap (i.snd.nx + 1)) i.snd.pa i.snd.er)).er = j.snd.er /\ (wnR ws en (1 : Int) (mR (IntKind.i64.wrap (i.snd.nx + 1)) i.snd.pa i.snd.er)).pa = j.snd.pa /\ Value.string (wnS ws (mR nx pa er)) = Value.string (wnS ws (mR nx pa er)) /\ wkK ws en (mR nx pa er) = wkK ws en (mR nx pa er) /\ wnN ws (wk1 ws en (mR nx pa er)) = wnN ws (wk1 ws en (mR nx pa er)) /\ Value.string (wnS ws (wk2 ws en (mR nx pa er))) = Value.string (wnS ws (wk2 ws en (mR nx pa er))) /\ Value.string (wnS ws (wk3 ws en (mR nx pa er))) = Value.string (wnS ws (wk3 ws en (mR nx pa er))) /\ i.fst.len + ((D.l [[D.s (wnS ws (mR (IntKind.i64.wrap (i.snd.nx + 1)) i.snd.pa i.snd.er))]]).sub 0 ((0 : Nat) + (1 : Nat))).len = j.fst.len /\ i.fst.rows ++ List.drop 0 (List.take ((0 : Nat) + (1 : Nat)) [[D.s (wnS ws (mR (IntKind.i64.wrap (i.snd.nx + 1)) i.snd.pa i.snd.er))]]) = j.fst.rows /\ Value.string ByteArray.empty = Value.string ByteArray.empty /\ (0 : Int) = (0 : Int) /\ (0 : Int) = (0 : Int) /\ Value.string ByteArray.empty = Value.string ByteArray.empty /\ Value.string ByteArray.empty = Value.string ByteArray.empty) /\ (isB ws coB i.snd = false -> rdOK ws i.snd.nx /\ rdOK ws (muR ws en cbB i.snd).nx /\ Value.string (wnS ws (mR nx pa er)) = Value.string (wkZ ws en (mR nx pa er)).nm /\ wkK ws en (mR nx pa er) = (wkZ ws en (mR nx pa er)).k /\ wnN ws (wk1 ws en (mR nx pa er)) = (wkZ ws en (mR nx pa er)).n /\ Value.string (wnS ws (wk2 ws en (mR nx pa er))) = Value.string (wkZ ws en (mR nx pa er)).fr /\ Value.string (wnS ws (wk3 ws en (mR nx pa er))) = Value.string (wkZ ws en (mR nx pa er)).to /\ i.fst.len = (wkZ ws en (mR nx pa er)).tg.len /\ ws.rows = ws.rows /\ (muR ws en seB (muR ws en cbB i.snd)).nx = (wkR ws en (mR nx pa er)).nx /\ en = en /\ (muR ws en seB (muR ws en cbB i.snd)).er = (wkR ws en (mR nx pa er)).er /\ (muR ws en seB (muR ws en cbB i.snd)).pa = (wkR ws en (mR nx pa er)).pa /\ i.fst.rows = (wkZ ws en (mR nx pa er)).tg.rows)))) (by kernel_rfl) ?_
    intro h
    have a := (wn_up en 1 (r := mR nx pa er) h).1
    refine ⟨h, ⟨0, ⟨by decide, trivial⟩, (by (repeat' (with_reducible apply And.intro)) <;> first | with_reducible rfl | exact True.intro | assumption | (symm; assumption) | rfl)⟩, fun i hi => ⟨fun hc => ?_, fun hc => ?_⟩⟩
    · have hc := of_decide_eq_true hc
      have hi2 : i < 3 := by omega
      have hw : IntKind.i64.wrap ((i : Int) + 1) = ((i + 1 : Nat) : Int) := by rw [IntWalk.i64_in _ (by omega)]; omega
      refine ⟨⟨by omega, by omega⟩, hi2, a, fun hb => ⟨i + 1, ⟨hi2, trivial⟩, by omega, hw, ?_⟩, fun hb => ⟨i + 1, ⟨hi2, trivial⟩, by omega, hw, ?_⟩⟩
      · have hb : isB ws (sgK.el i 0).toS (wk0 ws en (mR nx pa er)) = true := hb
        have e : ixR ws sgK (wk0 ws en (mR nx pa er)) (i + 1) = (i : Int) := if_pos hb
        rw [e]
        (repeat' (with_reducible apply And.intro)) <;> first | with_reducible rfl | exact True.intro | assumption | (symm; assumption) | rfl
      · have hb : isB ws (sgK.el i 0).toS (wk0 ws en (mR nx pa er)) = false := hb
        have e : ixR ws sgK (wk0 ws en (mR nx pa er)) (i + 1) = ixR ws sgK (wk0 ws en (mR nx pa er)) i := if_neg (by rw [hb]; decide)
        rw [e]
        (repeat' (with_reducible apply And.intro)) <;> first | with_reducible rfl | exact True.intro | assumption | (symm; assumption) | rfl
    have hc := of_decide_eq_false hc
    obtain rfl : i = 3 := by have := hi.1; omega
    refine ⟨fun hz => ?_, fun hz => ?_⟩
    · have hz : wkK ws en (mR nx pa er) < 0 := of_decide_eq_true hz
      have e : wkZ ws en (mR nx pa er) = ⟨wnS ws (mR nx pa er), wkK ws en (mR nx pa er), 0, ByteArray.empty, ByteArray.empty, .l []⟩ := if_pos hz
      have e2 : wkR ws en (mR nx pa er) = ffR ws en 5 (wk0 ws en (mR nx pa er)) := if_pos hz
      rw [e, e2]
      (repeat' (with_reducible apply And.intro)) <;> first | with_reducible rfl | exact True.intro | assumption | (symm; assumption) | rfl
    have hz : ¬ wkK ws en (mR nx pa er) < 0 := of_decide_eq_false hz
    have hx := ix_lt (ws := ws) (sg := sgK) (r := wk0 ws en (mR nx pa er)) 3 (by unfold wkK at hz; omega)
    have g := (gx_up a hx.2.1).1
    have a2 : rdOK ws (wk0 ws en (mR nx pa er)).nx := a
    rw [nx1 a2 hx.2.1]
    have e4 : mR ((wk0 ws en (mR nx pa er)).nx + 1) (wk0 ws en (mR nx pa er)).pa (wk0 ws en (mR nx pa er)).er = wk1 ws en (mR nx pa er) := rfl
    rw [e4]
    obtain ⟨⟨b1, b2, b3, b4, b5, b6, b7⟩, c1, c2, c3, c4⟩ := wk_up en (r := mR nx pa er) g
    have l0 := (lf_lt b7).2
    refine ⟨g, b1, b2, b3, b4, b5, b6, (by show (0 + 1) * 16 <= 140737488355328; decide), Nat.le_refl 1, ⟨(.l [[.s (wnS ws (wk4 ws en (mR nx pa er)))]], wnR ws en 1 (wk4 ws en (mR nx pa er))), ⟨b7, rfl, (by show 1 + left ws (wnR ws en 1 (wk4 ws en (mR nx pa er))) <= 1000001; omega)⟩, (by (repeat' (with_reducible apply And.intro)) <;> first | with_reducible rfl | exact True.intro | assumption | (symm; assumption) | rfl)⟩, ?_⟩
    rintro q ⟨h1, h2, h3⟩
    refine ⟨h1, fun hc => ?_, fun hc => ?_⟩
    · have hg : wkG coB ws q.2 = true := hc
      obtain ⟨u1, u2⟩ := (wk_sq en).up q.2 h1 hg
      have u3 := lt_left u1 h1 u2
      have hs := seq_step (wk_sq en) (d := q.1) h1 hg
      have hz : (q.1.len + 1) * 16 <= 140737488355328 := by omega
      have hl : (D.l (q.1.rows ++ [(wkF ws en q.2).1])).len + left ws (wkF ws en q.2).2 <= 1000001 := by rw [ap_len]; omega
      rw [nx1 h1 (isB_lt hc).2]
      have e3 : mR (q.2.nx + 1) q.2.pa q.2.er = gx q.2 := rfl
      rw [e3]
      have m1 := (gx_up h1 (isB_lt hc).2).1
      refine ⟨m1, rfl, hz, Nat.le_refl 1, (.l (q.1.rows ++ [(wkF ws en q.2).1]), (wkF ws en q.2).2), ⟨u1, hs.trans h2, hl⟩, u3, ?_⟩
      (repeat' (with_reducible apply And.intro)) <;> first | with_reducible rfl | exact True.intro | exact (ap_len _ _).symm | rfl
    · have hg : wkG coB ws q.2 = false := hc
      have h2 : (q.1, q.2) = wkT ws en (mR nx pa er) := (seq_end hg).symm.trans h2
      have f1 := (mu_up en (t := cbB) h1).1
      have e : wkZ ws en (mR nx pa er) = ⟨wnS ws (mR nx pa er), wkK ws en (mR nx pa er), wnN ws (wk1 ws en (mR nx pa er)), wnS ws (wk2 ws en (mR nx pa er)), wnS ws (wk3 ws en (mR nx pa er)), q.1⟩ := (if_neg hz).trans (by rw [← h2])
      have e2 : wkR ws en (mR nx pa er) = muR ws en seB (muR ws en cbB q.2) := (if_neg hz).trans (by rw [← h2])
      rw [e, e2]
      (repeat' (with_reducible apply And.intro)) <;> first | with_reducible rfl | exact True.intro | assumption | (symm; assumption) | rfl
  · trivial
end Go.Proofs.Ytbhbjhejkamlnaa.Sx.Z
namespace Go.Proofs.Ytbhbjhejkamlnaa
theorem takeWhile_stop (pr : UInt8 -> Bool) : ∀ r : List UInt8, lenOf pr r < r.length -> pr (r.getD (lenOf pr r) 0) = false := by
  intro r
  induction r with
  | nil => intro h; simp at h
  | cons a t ih =>
    intro h
    by_cases ha : pr a = true
    · have e : lenOf pr (a :: t) = lenOf pr t + 1 := by simp [lenOf, ha]
      rw [e] at h ⊢
      exact ih (by simpa using h)
    · have e : lenOf pr (a :: t) = 0 := by simp [lenOf, ha]
      rw [e]
      simpa using ha
theorem takeWhile_in (pr : UInt8 -> Bool) : ∀ (r : List UInt8) (i : Nat), i < lenOf pr r -> pr (r.getD i 0) = true := by
  intro r
  induction r with
  | nil => intro i h; simp [lenOf] at h
  | cons a t ih =>
    intro i h
    by_cases ha : pr a = true
    · have e : lenOf pr (a :: t) = lenOf pr t + 1 := by simp [lenOf, ha]
      rw [e] at h
      match i with
      | 0 => exact ha
      | i + 1 => exact ih i (by omega)
    · have e : lenOf pr (a :: t) = 0 := by simp [lenOf, ha]
      omega
theorem alnU_dig (b : UInt8) (h : digU b = true) : alnU b = true := by unfold alnU; rw [h]; simp
theorem dig_aln_le (r : List UInt8) : lenOf digU r <= lenOf alnU r := by
  rcases Nat.lt_or_ge (lenOf alnU r) (lenOf digU r) with h | h
  · have hl : lenOf alnU r < r.length := Nat.lt_of_lt_of_le h (lenOf_le _ _)
    have h1 := takeWhile_stop alnU r hl
    have h2 := takeWhile_in digU r _ h
    rw [alnU_dig _ h2] at h1
    cases h1
  · exact h
theorem let_stop (r : List UInt8) (h : lenOf digU r = lenOf alnU r) : letU (r.getD (lenOf digU r) 0) = false := by
  rcases Nat.lt_or_ge (lenOf alnU r) r.length with hl | hl
  · have := takeWhile_stop alnU r hl
    rw [h]
    simp [alnU] at this
    exact this.1
  · rw [List.getD_eq_getElem?_getD, List.getElem?_eq_none (by omega)]
    decide
theorem let_more (r : List UInt8) (h : lenOf digU r < lenOf alnU r) : letU (r.getD (lenOf digU r) 0) = true := by
  have h1 := takeWhile_in alnU r _ h
  have h2 := takeWhile_stop digU r (Nat.lt_of_lt_of_le h (lenOf_le _ _))
  unfold alnU at h1
  rw [h2, Bool.or_false] at h1
  exact h1
def valFrom (a : Nat) (ds : List UInt8) : Nat := ds.foldl (fun n d => 10 * n + (d.toNat - 48)) a
theorem valFrom_ge (ds : List UInt8) : ∀ a, a * 10 ^ ds.length <= valFrom a ds := by
  induction ds with
  | nil => intro a; simp [valFrom]
  | cons d t ih =>
    intro a
    have h := ih (10 * a + (d.toNat - 48))
    have e : valFrom a (d :: t) = valFrom (10 * a + (d.toNat - 48)) t := rfl
    rw [e, List.length_cons, Nat.pow_succ]
    have h2 : a * (10 ^ t.length * 10) <= (10 * a + (d.toNat - 48)) * 10 ^ t.length := by
      rw [Nat.add_mul, Nat.mul_comm (10 ^ t.length) 10, ← Nat.mul_assoc, Nat.mul_comm a 10]
      omega
    omega
theorem valFrom_lt (ds : List UInt8) : ∀ a, (∀ d ∈ ds, digU d = true) -> valFrom a ds < (a + 1) * 10 ^ ds.length := by
  induction ds with
  | nil => intro a _; simp [valFrom]
  | cons d t ih =>
    intro a hall
    have h := ih (10 * a + (d.toNat - 48)) (fun x hx => hall x (by simp [hx]))
    have hd : digU d = true := hall d (by simp)
    simp only [digU, digB, Bool.and_eq_true, decide_eq_true_eq] at hd
    have e : valFrom a (d :: t) = valFrom (10 * a + (d.toNat - 48)) t := rfl
    rw [e, List.length_cons, Nat.pow_succ]
    have h2 : (10 * a + (d.toNat - 48) + 1) * 10 ^ t.length <= (a + 1) * (10 ^ t.length * 10) := by
      rw [Nat.mul_comm (10 ^ t.length) 10, ← Nat.mul_assoc]
      exact Nat.mul_le_mul_right _ (by omega)
    omega
theorem val_big (r : List UInt8) (n : Nat) (h0 : 49 <= (r.headD 0).toNat) (hn : 10 < n) (hr : n <= r.length) : 2147483647 < val (r.take n) := by
  match r, n, hn with
  | [], n + 1, hn => simp at hr
  | d :: t, n + 1, hn =>
    have e : val ((d :: t).take (n + 1)) = valFrom (10 * 0 + (d.toNat - 48)) (t.take n) := rfl
    rw [e]
    have h1 := valFrom_ge (t.take n) (10 * 0 + (d.toNat - 48))
    have hd : 49 <= d.toNat := h0
    have hl : (t.take n).length = n := by rw [List.length_take]; simp at hr; omega
    rw [hl] at h1
    have h2 : 10 ^ 10 <= 10 ^ n := Nat.pow_le_pow_right (by decide) (by omega)
    have h3 : 1 * 10 ^ n <= (10 * 0 + (d.toNat - 48)) * 10 ^ n := Nat.mul_le_mul_right _ (by omega)
    have h4 : (10 : Nat) ^ 10 = 10000000000 := by decide
    omega
theorem numE_ref (r : List UInt8) (hd : digU (r.headD 0) = true) :
    numE r = if 10 < lenOf alnU r ∨ (1 < lenOf alnU r /\ r.headD 0 = 48) ∨ lenOf digU r < lenOf alnU r ∨ 2147483647 < val (r.take (lenOf alnU r)) then .error 3
      else .ok (2, lenOf alnU r, (val (r.take (lenOf alnU r)) : Int)) := by
  have hle := dig_aln_le r
  unfold numE
  by_cases hlt : lenOf digU r < lenOf alnU r
  · rw [if_pos (.inr (.inr (let_more r hlt))), if_pos (.inr (.inr (.inl hlt)))]
  · have he : lenOf digU r = lenOf alnU r := by omega
    have hls := let_stop r he
    rw [he] at hls ⊢
    by_cases hz : 1 < lenOf alnU r /\ r.headD 0 = 48
    · rw [if_pos (.inr (.inl hz)), if_pos (.inr (.inl hz))]
    · by_cases hv : 2147483647 < val (r.take (lenOf alnU r))
      · rw [if_pos (.inl hv), if_pos (.inr (.inr (.inr hv)))]
      · rw [if_neg (fun h => h.elim hv (fun h => h.elim hz (fun h => by rw [hls] at h; cases h)))]
        rw [if_neg]
        rintro (h | h | h | h)
        · have h49 : 49 <= (r.headD 0).toNat := by
            simp only [digU, digB, Bool.and_eq_true, decide_eq_true_eq] at hd
            have : (r.headD 0).toNat ≠ 48 := fun e => hz ⟨by omega, UInt8.toNat_inj.1 e⟩
            omega
          exact hv (val_big r _ h49 h (lenOf_le _ _))
        · exact hz h
        · omega
        · exact hv h
theorem lenOf_take (pr : UInt8 -> Bool) : ∀ (r : List UInt8) (d : Nat), lenOf pr (r.take d) = min (lenOf pr r) d := by
  intro r
  induction r with
  | nil => intro d; simp [lenOf]
  | cons a r ih =>
    intro d
    match d with
    | 0 => simp [lenOf]
    | d + 1 =>
      have := ih d
      unfold lenOf at *
      rw [List.take_succ_cons, List.takeWhile_cons, List.takeWhile_cons]
      by_cases ha : pr a = true
      · rw [if_pos ha, if_pos ha, List.length_cons, List.length_cons, this]; omega
      · rw [if_neg ha, if_neg ha]; simp
theorem numE_run (r l : List UInt8) (d : Nat) (hd : digU (r.headD 0) = true) (hlen : lenOf alnU r = d) (hl : r.take d = l) :
    numE r = if 10 < d ∨ (1 < d /\ r.headD 0 = 48) ∨ lenOf digU l < d ∨ 2147483647 < val l then .error 3 else .ok (2, d, (val l : Int)) := by
  rw [numE_ref r hd, hlen, hl, ← hl, lenOf_take]
  have e : (min (lenOf digU r) d < d) = (lenOf digU r < d) := propext ⟨fun h => by omega, fun h => by omega⟩
  simp only [e]
theorem val_few (l : List UInt8) (h : ∀ b ∈ l, digU b = true) (hl : l.length <= 10) : val l < 10000000000 := by
  have h1 := valFrom_lt l 0 h
  have h2 : 10 ^ l.length <= 10 ^ 10 := Nat.pow_le_pow_right (by decide) hl
  have h3 : (10 : Nat) ^ 10 = 10000000000 := by decide
  have e : valFrom 0 l = val l := rfl
  omega
theorem Run.take {T : ByteArray} {k : Nat} (h : Run digU T 0 k) : ∀ b ∈ T.data.toList.take k, digU b = true := by
  intro b hb
  obtain ⟨j, hj, rfl⟩ := List.getElem_of_mem hb
  rw [List.length_take] at hj
  have := h.2.2 j (by omega) (by omega)
  rw [List.getD_eq_getElem?_getD, List.getElem?_eq_getElem (by omega)] at this
  rw [List.getElem_take]
  exact this
theorem Run.few {T : ByteArray} {k : Nat} (h : Run digU T 0 k) (hk : k <= 10) : vl T 0 k < 10000000000 := by
  unfold vl
  rw [List.drop_zero]
  exact val_few _ (by have := h.take; rw [Nat.sub_zero]; exact this) (by rw [List.length_take]; omega)
theorem Run.whole {T : ByteArray} {k : Nat} (h : Run digU T 0 k) (hk : T.size <= k) : lenOf digU T.data.toList = k := by
  have := h.len (fun hx => absurd hx (by omega))
  rw [List.drop_zero, Nat.sub_zero] at this
  exact this
theorem Run.val_whole {T : ByteArray} {k : Nat} (_ : Run digU T 0 k) (hk : T.size <= k) : vl T 0 k = val T.data.toList := by
  have hl : T.data.toList.length = T.size := Array.length_toList
  unfold vl
  rw [List.drop_zero, Nat.sub_zero, List.take_of_length_le (by omega)]
theorem Run.part {T : ByteArray} {k d : Nat} (h : Run digU T 0 k) (hk : k < T.size) (hb : digU T[k] = false) (hd : lenOf digU T.data.toList = d) : d = k := by
  have := h.len (fun hx => by rw [getD_eq T k hx]; exact hb)
  rw [List.drop_zero, Nat.sub_zero] at this
  omega
end Go.Proofs.Ytbhbjhejkamlnaa
namespace Go.Proofs.Ytbhbjhejkamlnaa
open Go.RowKit
theorem rlet_any (n : Int) (w : World) : Calls Try.prog 42 #[.int .u8 n] w fun e w' => e = .returned (.bool (letB n)) /\ w = w' := by
  unfold letB
  go_enter Try.func42, Try.ntmps42
  go_wp2
  all_goals
    go_ret
    exact ⟨by first | (simp [*]; done) | (simp [*]; omega), rfl⟩
theorem rdig_any (n : Int) (w : World) : Calls Try.prog 43 #[.int .u8 n] w fun e w' => e = .returned (.bool (digB n)) /\ w = w' := by
  unfold digB
  go_enter Try.func43, Try.ntmps43
  go_wp2
  all_goals
    go_ret
    exact ⟨by first | (simp [*]; done) | (simp [*]; omega), rfl⟩
def resW : List ByteArray := [⟨#[99, 104, 97, 110]⟩, ⟨#[98, 108, 111, 99, 107]⟩, ⟨#[100, 114, 111, 112]⟩, ⟨#[108, 111, 115, 115, 121]⟩, ⟨#[102, 114, 111, 109]⟩, ⟨#[116, 111]⟩,
  ⟨#[114, 117, 108, 101]⟩, ⟨#[112, 114, 111, 99]⟩, ⟨#[118, 97, 114]⟩, ⟨#[105, 102]⟩, ⟨#[101, 108, 115, 101]⟩, ⟨#[119, 104, 105, 108, 101]⟩,
  ⟨#[115, 101, 110, 100]⟩, ⟨#[114, 101, 99, 118]⟩, ⟨#[97, 115, 115, 101, 114, 116]⟩, ⟨#[105, 110, 112, 117, 116]⟩]
def resCells : Array Value := (resW.map Value.string).toArray
theorem resB_any (s : ByteArray) : resB s.toList = resW.any fun x => x.toList == s.toList := by
  rw [Bool.eq_iff_iff]
  simp only [resW, resB, List.any_cons, List.any_nil, Bool.or_false, Bool.or_eq_true, beq_iff_eq, Lib.toList_data]
  simp only [or_assoc, eq_comm (b := s.data.toList)]
theorem rwords_any (w : World) : Calls Try.prog 74 #[] w fun e w' => e = .returned (.slice (some ⟨w.heap.size, 0, none⟩) 16 16) /\ w.alloc (.cells resCells 9) = w' := by
  go_enter Try.func74, Try.ntmps74
  go_wp2
  go_ret
  exact ⟨rfl, rfl⟩
def NoneOf (s : ByteArray) (k : Nat) : Prop := ∀ j, j < k -> ((resW.getD j ⟨#[]⟩).toList == s.toList) = false
set_option maxHeartbeats 1000000 in
theorem rres_any (s : ByteArray) (w : World) : Calls Try.prog 44 #[.string s] w fun e w' => e = .returned (.bool (resB s.toList)) /\ Below w.heap.size w w' := by
  have hcells : ∀ k, k < 16 -> (w.alloc (.cells resCells 9)).cell? ⟨w.heap.size, k, none⟩ = some (.string (resW.getD k ⟨#[]⟩)) := by
    intro k hk
    have h := cell_of_row (w.alloc (.cells resCells 9)) w.heap.size k resCells 9 (0, 0) (heap_alloc_new w _)
    rw [h]
    match k, hk with
    | 0, _ => rfl
    | 1, _ => rfl
    | 2, _ => rfl
    | 3, _ => rfl
    | 4, _ => rfl
    | 5, _ => rfl
    | 6, _ => rfl
    | 7, _ => rfl
    | 8, _ => rfl
    | 9, _ => rfl
    | 10, _ => rfl
    | 11, _ => rfl
    | 12, _ => rfl
    | 13, _ => rfl
    | 14, _ => rfl
    | 15, _ => rfl
    | n + 16, h => omega
  have hb : Below w.heap.size w (w.alloc (.cells resCells 9)) := (Below.refl _ _).alloc (Nat.le_refl _) _
  have Hcells := Lib.hid hcells
  clear hcells
  go_enter Try.func44, Try.ntmps44
  go_wp2_with (go_at_call 74; refine (rwords_any _).mono ?_; rintro e w1 ⟨rfl, hw1⟩)
  generalize hW : w.alloc (.cells resCells 9) = W at *
  subst hw1
  clear hW
  go_loop [4] (fun i => ∃ k : Nat, k <= 16 /\ NoneOf s k /\ i = .int .i64 k) (fun i => 16 - (intOf i).toNat)
  case atStart => exact ⟨0, by omega, fun j h => by omega, rfl⟩
  case round =>
    obtain ⟨k, hk, hnone, rfl⟩ := hrel
    by_cases hlt : k < 16
    · have hc := Hcells.out k hlt
      rcases Bool.eq_false_or_eq_true ((resW.getD k ⟨#[]⟩).toList == s.toList) with he | he
      · have Hfin := Lib.hid (show resB s.toList = true by
          rw [resB_any, List.any_eq_true]
          have hl : k < resW.length := hlt
          exact ⟨resW.getD k ⟨#[]⟩, by rw [List.getD_eq_getElem?_getD, List.getElem?_eq_getElem hl]; exact List.getElem_mem _, he⟩)
        generalize resW.getD k ⟨#[]⟩ = x at *
        go_wp2_with fail
        go_ret
        exact ⟨by rw [Hfin.out]; rfl, hb⟩
      · have hnone' : NoneOf s (k + 1) := fun j hj => by
          rcases Nat.lt_or_ge j k with h | h
          · exact hnone j h
          · rw [show j = k from by omega]; exact he
        generalize resW.getD k ⟨#[]⟩ = x at *
        go_wp2_with fail
        go_round
        case rel => exact ⟨k + 1, by omega, hnone', by go_num⟩
        case measure => simp [intOf]; omega
    · have Hfin := Lib.hid (show resB s.toList = false by
        rw [resB_any, List.any_eq_false]
        intro x hx
        obtain ⟨j, hj, rfl⟩ := List.getElem_of_mem hx
        have h1 := hnone j (by have : resW.length = 16 := rfl; omega)
        rw [List.getD_eq_getElem?_getD, List.getElem?_eq_getElem hj] at h1
        simpa using h1)
      go_wp2_with fail
      go_ret
      exact ⟨by rw [Hfin.out]; rfl, hb⟩
end Go.Proofs.Ytbhbjhejkamlnaa
namespace Go.Proofs.Ytbhbjhejkamlnaa
open Go.RowKit
theorem below_drewN {B : Nat} {a w : World} (h : Below B a w) (n : Nat) : Below B a (w.drewN n) := ⟨h.os, h.tape, h.output, h.size, h.block⟩
theorem lexR_len {s : ByteArray} {acc : List Tok} (h : lexR s = (acc, 0, 0)) : acc.length <= 2000 := by
  unfold lexR at h
  split at h
  · injection h with h _
    subst h
    exact Nat.zero_le _
  · split at h
    · injection h with h _
      subst h
      exact Nat.zero_le _
    · injection h with h _
      subst h
      omega
end Go.Proofs.Ytbhbjhejkamlnaa
namespace Go.Proofs.Ytbhbjhejkamlnaa
open Go.RowKit
def twoW : List ByteArray := [⟨#[61, 61]⟩, ⟨#[33, 61]⟩, ⟨#[60, 61]⟩, ⟨#[62, 61]⟩]
def twoCells : Array Value := (twoW.map Value.string).toArray
def oneL : List UInt8 := [123, 125, 40, 41, 59, 44, 46, 61, 60, 62, 43, 45, 42, 47, 37]
theorem u8_int (a : UInt8) (n : UInt8) : ((a.toNat : Int) = (n.toNat : Int)) ↔ a = n := by
  constructor
  · intro h; exact UInt8.toNat_inj.1 (by omega)
  · rintro rfl; rfl
theorem sgnB_u8 (a : UInt8) (p : Bool) : sgnB (a.toNat : Int) p =
    if a = 61 ∨ a = 60 ∨ a = 62 then (if p then 2 else 1) else if a = 33 then (if p then 2 else 0)
    else if a = 123 ∨ a = 125 ∨ a = 40 ∨ a = 41 ∨ a = 59 ∨ a = 44 ∨ a = 46 ∨ a = 43 ∨ a = 45 ∨ a = 42 ∨ a = 47 ∨ a = 37 then 1 else 0 := by
  unfold sgnB
  have h : ∀ n : UInt8, ((a.toNat : Int) = (n.toNat : Int)) = (a = n) := fun n => propext (u8_int a n)
  have e : ((a.toNat : Int) = 61) = (a = 61) := h 61
  have e1 : ((a.toNat : Int) = 60) = (a = 60) := h 60
  have e2 : ((a.toNat : Int) = 62) = (a = 62) := h 62
  have e3 : ((a.toNat : Int) = 33) = (a = 33) := h 33
  have e4 : ((a.toNat : Int) = 123) = (a = 123) := h 123
  have e5 : ((a.toNat : Int) = 125) = (a = 125) := h 125
  have e6 : ((a.toNat : Int) = 40) = (a = 40) := h 40
  have e7 : ((a.toNat : Int) = 41) = (a = 41) := h 41
  have e8 : ((a.toNat : Int) = 59) = (a = 59) := h 59
  have e9 : ((a.toNat : Int) = 44) = (a = 44) := h 44
  have e10 : ((a.toNat : Int) = 46) = (a = 46) := h 46
  have e11 : ((a.toNat : Int) = 43) = (a = 43) := h 43
  have e12 : ((a.toNat : Int) = 45) = (a = 45) := h 45
  have e13 : ((a.toNat : Int) = 42) = (a = 42) := h 42
  have e14 : ((a.toNat : Int) = 47) = (a = 47) := h 47
  have e15 : ((a.toNat : Int) = 37) = (a = 37) := h 37
  simp only [e, e1, e2, e3, e4, e5, e6, e7, e8, e9, e10, e11, e12, e13, e14, e15]
theorem sgn_yes (r : List UInt8) (j : Nat) (hj : j < 4) (h : r.take 2 = (twoW.getD j ⟨#[]⟩).data.toList) : sgnLen r = 2 := by
  have hr : ∃ a t, r = a :: 61 :: t /\ (a = 61 ∨ a = 33 ∨ a = 60 ∨ a = 62) := by
    match r, j, hj with
    | [], 0, _ => cases h
    | [], 1, _ => cases h
    | [], 2, _ => cases h
    | [], 3, _ => cases h
    | [a], 0, _ => cases h
    | [a], 1, _ => cases h
    | [a], 2, _ => cases h
    | [a], 3, _ => cases h
    | a :: b :: t, 0, _ =>
      have h : [a, b] = [61, 61] := h
      simp at h; obtain ⟨rfl, rfl⟩ := h; exact ⟨_, t, rfl, .inl rfl⟩
    | a :: b :: t, 1, _ =>
      have h : [a, b] = [33, 61] := h
      simp at h; obtain ⟨rfl, rfl⟩ := h; exact ⟨_, t, rfl, .inr (.inl rfl)⟩
    | a :: b :: t, 2, _ =>
      have h : [a, b] = [60, 61] := h
      simp at h; obtain ⟨rfl, rfl⟩ := h; exact ⟨_, t, rfl, .inr (.inr (.inl rfl))⟩
    | a :: b :: t, 3, _ =>
      have h : [a, b] = [62, 61] := h
      simp at h; obtain ⟨rfl, rfl⟩ := h; exact ⟨_, t, rfl, .inr (.inr (.inr rfl))⟩
    | _, j + 4, h => omega
  obtain ⟨a, t, rfl, ha⟩ := hr
  show sgnB (a.toNat : Int) ((61 : UInt8) == 61) = 2
  rw [sgnB_u8]
  rcases ha with rfl | rfl | rfl | rfl <;> decide
theorem sgn_no (r : List UInt8) (h0 : 0 < r.length) (h : ∀ j, j < 4 -> r.take 2 ≠ (twoW.getD j ⟨#[]⟩).data.toList) : sgnLen r = if r.headD 0 ∈ oneL then 1 else 0 := by
  have key : ∀ a : UInt8, sgnB (a.toNat : Int) false = if a ∈ oneL then 1 else 0 := by
    intro a
    rw [sgnB_u8]
    simp only [oneL, List.mem_cons, List.not_mem_nil, or_false, Bool.false_eq_true, if_false]
    by_cases h1 : a = 61 ∨ a = 60 ∨ a = 62
    · rw [if_pos h1, if_pos (by rcases h1 with h | h | h <;> simp [h])]
    · rw [if_neg h1]
      by_cases h2 : a = 33
      · subst h2; decide
      · rw [if_neg h2]
        have e : (a = 123 ∨ a = 125 ∨ a = 40 ∨ a = 41 ∨ a = 59 ∨ a = 44 ∨ a = 46 ∨ a = 43 ∨ a = 45 ∨ a = 42 ∨ a = 47 ∨ a = 37) ↔ (a = 123 ∨ a = 125 ∨ a = 40 ∨ a = 41 ∨ a = 59 ∨ a = 44 ∨ a = 46 ∨ a = 61 ∨ a = 60 ∨ a = 62 ∨ a = 43 ∨ a = 45 ∨ a = 42 ∨ a = 47 ∨ a = 37) := by
          have n1 : a ≠ 61 := fun e => h1 (.inl e)
          have n2 : a ≠ 60 := fun e => h1 (.inr (.inl e))
          have n3 : a ≠ 62 := fun e => h1 (.inr (.inr e))
          simp [n1, n2, n3]
        by_cases h3 : (a = 123 ∨ a = 125 ∨ a = 40 ∨ a = 41 ∨ a = 59 ∨ a = 44 ∨ a = 46 ∨ a = 43 ∨ a = 45 ∨ a = 42 ∨ a = 47 ∨ a = 37)
        · rw [if_pos h3, if_pos (e.1 h3)]
        · rw [if_neg h3, if_neg (fun hx => h3 (e.2 hx))]
  match r, h0 with
  | [a], _ => exact key a
  | a :: b :: t, _ =>
    show sgnB (a.toNat : Int) (b == 61) = if a ∈ oneL then 1 else 0
    by_cases hb : b = 61
    · subst hb
      have m0 : a ≠ 61 := fun e => h 0 (by omega) (by rw [e]; rfl)
      have m1 : a ≠ 33 := fun e => h 1 (by omega) (by rw [e]; rfl)
      have m2 : a ≠ 60 := fun e => h 2 (by omega) (by rw [e]; rfl)
      have m3 : a ≠ 62 := fun e => h 3 (by omega) (by rw [e]; rfl)
      rw [← key a, sgnB_u8, sgnB_u8]
      simp [m0, m1, m2, m3]
    · rw [← key a]
      have : (b == 61) = false := by simpa using hb
      rw [this]
def NoTwo (s : ByteArray) (p k : Nat) : Prop := ∀ j, j < k -> (s.data.toList.drop p).take 2 ≠ (twoW.getD j ⟨#[]⟩).data.toList
def NoOne (b : UInt8) (k : Nat) : Prop := ∀ j, j < k -> oneL.getD j 0 ≠ b
set_option maxRecDepth 100000 in
set_option maxHeartbeats 4000000 in
theorem rsign_any (s : ByteArray) (p : Nat) (w : World) (hs : s.size <= 140737488351232) (hp : p < s.size) :
    Calls Try.prog 45 #[.string s, .int .i64 p] w fun e w' => e = .returned (.int .i64 (sgnLen (s.data.toList.drop p))) /\ Below w.heap.size w w' := by
  have hcells : ∀ k, k < 4 -> (w.alloc (.cells twoCells 9)).cell? ⟨w.heap.size, k, none⟩ = some (.string (twoW.getD k ⟨#[]⟩)) := by
    intro k hk
    have h := cell_of_row (w.alloc (.cells twoCells 9)) w.heap.size k twoCells 9 (0, 0) (heap_alloc_new w _)
    rw [h]
    match k, hk with
    | 0, _ => rfl
    | 1, _ => rfl
    | 2, _ => rfl
    | 3, _ => rfl
    | n + 4, h => omega
  have hb : Below w.heap.size w (w.alloc (.cells twoCells 9)) := (Below.refl _ _).alloc (Nat.le_refl _) _
  have Hcells := Lib.hid hcells
  clear hcells
  have hlen : (s.data.toList.drop p).length = s.size - p := by simp
  have Hlen := Lib.hid hlen
  clear hlen
  go_enter Try.func45, Try.ntmps45
  go_wp2_with fail
  generalize hW : w.alloc (.cells #[Value.string ⟨#[61, 61]⟩, Value.string ⟨#[33, 61]⟩, Value.string ⟨#[60, 61]⟩, Value.string ⟨#[62, 61]⟩] 9) = W at *
  have hW' : w.alloc (.cells twoCells 9) = W := hW
  rw [hW'] at Hcells hb
  clear hW hW'
  go_loopw [6] (fun i wr => ∃ (k m : Nat), k <= 4 /\ NoTwo s p k /\ i = .int .i64 k /\ wr = W.drewN m) (fun i _ => 4 - (intOf i).toNat)
  case atStart => exact ⟨0, 0, by omega, fun j h => by omega, rfl, rfl⟩
  case round =>
    obtain ⟨k, m, hk, hno, rfl, rfl⟩ := hrel
    by_cases hlt : k < 4
    · have hc := Hcells.out k hlt
      by_cases h2 : p + 2 <= s.size
      · have ht : (s.extract p (p + 2)).toList = (s.data.toList.drop p).take 2 := by
          have := Lib.extract_toList s p (p + 2)
          rw [show p + 2 - p = 2 from by omega] at this
          exact this
        have hd : (p : Int) + 2 <= (s.size : Int) := by omega
        rcases Bool.eq_false_or_eq_true ((s.extract p (p + 2)).toList == (twoW.getD k ⟨#[]⟩).toList) with he | he
        · have Hfin := Lib.hid (sgn_yes (s.data.toList.drop p) k hlt (by rw [← ht, beq_iff_eq.1 he, Lib.toList_data]))
          generalize twoW.getD k ⟨#[]⟩ = x at *
          clear ht
          go_wp2_with fail
          go_quiet (fail)
          go_wp2_with fail
          go_ret
          exact ⟨by rw [Hfin.out]; rfl, below_drewN (below_drewN hb _) _⟩
        · have hno' : NoTwo s p (k + 1) := fun j hj => by
            rcases Nat.lt_or_ge j k with h | h
            · exact hno j h
            · rw [show j = k from by omega, ← ht, ← Lib.toList_data]
              exact beq_eq_false_iff_ne.1 he
          generalize twoW.getD k ⟨#[]⟩ = x at *
          clear ht
          go_wp2_with fail
          go_quiet (fail)
          go_wp2_with fail
          go_roundw
          case rel => exact ⟨k + 1, _, by omega, hno', by go_num, rfl⟩
          case measure => simp [intOf]; omega
      · have hno' : NoTwo s p (k + 1) := fun j hj => by
          rcases Nat.lt_or_ge j k with h | h
          · exact hno j h
          · intro e
            have e2 := congrArg List.length e
            rw [List.length_take, Hlen.out] at e2
            have : ∀ j, j < 4 -> (twoW.getD j ⟨#[]⟩).data.toList.length = 2 := fun j hj => by
              match j, hj with
              | 0, _ => rfl
              | 1, _ => rfl
              | 2, _ => rfl
              | 3, _ => rfl
              | n + 4, h => omega
            rw [this j (by omega)] at e2
            omega
        have hd : decide ((p : Int) + 2 <= (s.size : Int)) = false := by simp; omega
        go_wp2_with fail
        go_quiet (fail)
        go_wp2_with fail
        go_roundw
        case rel => exact ⟨k + 1, _, by omega, hno', by go_num, rfl⟩
        case measure => simp [intOf]; omega
    · obtain rfl : k = 4 := by omega
      have hsn := sgn_no (s.data.toList.drop p) (by rw [Hlen.out]; omega) hno
      rw [head_drop, getD_eq s p hp] at hsn
      have Hsn := Lib.hid hsn
      clear hsn
      have hbm := below_drewN hb m
      generalize W.drewN m = W1 at *
      go_wp2_with fail
      obtain ⟨O, hO, hOs, hOd⟩ : ∃ O : ByteArray, (⟨#[123, 125, 40, 41, 59, 44, 46, 61, 60, 62, 43, 45, 42, 47, 37]⟩ : ByteArray) = O /\ O.size = 15 /\ O.data.toList = oneL := ⟨_, rfl, rfl, rfl⟩
      rw [hO]
      have HOd := Lib.hid hOd
      clear hO hOd
      go_loopw [8] (fun i wr => ∃ (k m : Nat), k <= 15 /\ NoOne s[p] k /\ i = .int .i64 k /\ wr = W1.drewN m) (fun i _ => 15 - (intOf i).toNat)
      case atStart => exact ⟨0, 0, by omega, fun j h => by omega, rfl, rfl⟩
      case round =>
        obtain ⟨k, m2, hk2, hno2, rfl, rfl⟩ := hrel
        by_cases hlt2 : k < 15
        · have hkO : k < O.size := by rw [hOs]; exact hlt2
          have hget : oneL.getD k 0 = O[k] := by rw [← HOd.out, getD_eq O k hkO]
          have hmem : O[k] ∈ oneL := by
            rw [← hget, List.getD_eq_getElem?_getD, List.getElem?_eq_getElem (show k < oneL.length from hlt2)]
            exact List.getElem_mem _
          rcases Bool.eq_false_or_eq_true ((O[k].toNat : Int) == (s[p].toNat : Int)) with he | he
          · have hes : O[k] = s[p] := (u8_int _ _).1 (beq_iff_eq.1 he)
            have Hfin := Lib.hid (show sgnLen (s.data.toList.drop p) = 1 by rw [Hsn.out, if_pos (by rw [← hes]; exact hmem)])
            clear hes hmem hget
            go_wp2_with fail
            go_quiet (fail)
            go_wp2_with fail
            go_ret
            exact ⟨by rw [Hfin.out]; rfl, below_drewN (below_drewN hbm _) _⟩
          · have hno2' : NoOne s[p] (k + 1) := fun j hj => by
              rcases Nat.lt_or_ge j k with h | h
              · exact hno2 j h
              · rw [show j = k from by omega, hget]
                exact fun e => beq_eq_false_iff_ne.1 he (by rw [e])
            clear hmem hget
            go_wp2_with fail
            go_quiet (fail)
            go_wp2_with fail
            go_roundw
            case rel => exact ⟨k + 1, _, by omega, hno2', by go_num, rfl⟩
            case measure => simp [intOf]; omega
        · have Hfin := Lib.hid (show sgnLen (s.data.toList.drop p) = 0 by
            rw [Hsn.out, if_neg]
            intro hx
            obtain ⟨j, hj, e⟩ := List.getElem_of_mem hx
            have hj15 : j < 15 := hj
            have h1 := hno2 j (by omega)
            rw [List.getD_eq_getElem?_getD, List.getElem?_eq_getElem hj] at h1
            exact h1 e)
          go_wp2_with fail
          go_ret
          exact ⟨by rw [Hfin.out]; rfl, below_drewN hbm _⟩
end Go.Proofs.Ytbhbjhejkamlnaa
namespace Go.Proofs.Ytbhbjhejkamlnaa
open Go.RowKit
theorem info_rtok : (Try.prog.info? 123).map (fun i => (i.zero, i.size, i.bytes)) = some (some (.agg #[.int .i64 0, .string ⟨#[]⟩, .int .i64 0, .int .i64 0]), 4, 40) := by kernel_rfl
def RLexPost (s : ByteArray) (w : World) (e : Ending) (w' : World) : Prop :=
  ∃ A c, e = .returned (.tuple #[.slice A (lexR s).1.length c, .int .i64 ((lexR s).2.1 : Nat), .int .i64 (lexR s).2.2]) /\
    w'.ownsRow w.heap.size 123 4 (.slice A (lexR s).1.length c) (lexR s).1.length (tcells (lexR s).1) /\ Below w.heap.size w w'
theorem RLexPost.bad {s : ByteArray} {w w' : World} {p : Nat} {x : Int} (h : lexR s = ([], p, x)) (hb : Below w.heap.size w w') : RLexPost s w (.returned (.tuple #[.slice none 0 0, .int .i64 p, .int .i64 x])) w' := by
  unfold RLexPost
  rw [h]
  exact ⟨none, 0, rfl, World.ownsRow_nil _ _ _ _, hb⟩
theorem RLexPost.good {s : ByteArray} {w w' : World} {A : Option Addr} {n c : Nat} {acc : List Tok} (h : lexR s = (acc, 0, 0)) (hn : n = acc.length) (ho : w'.ownsRow w.heap.size 123 4 (.slice A n c) n (tcells acc)) (hb : Below w.heap.size w w') :
    RLexPost s w (.returned (.tuple #[.slice A n c, .int .i64 0, .int .i64 0])) w' := by
  unfold RLexPost
  rw [h]
  subst hn
  exact ⟨A, c, rfl, ho, hb⟩
theorem rsign_at (s : ByteArray) (p : Nat) (w : World) (hs : s.size <= 140737488351232) (hp : p < s.size) {d : Nat} (hd : sgnLen (s.data.toList.drop p) = d) :
    Calls Try.prog 45 #[.string s, .int .i64 p] w fun e w' => e = .returned (.int .i64 d) /\ Below w.heap.size w w' := by
  subst hd
  exact rsign_any s p w hs hp
theorem set_num (wr : World) (t : TypeId) (a b c d e : Value) (m : Nat) : ((wr.alloc (.cells #[a, b, c, d] t)).drewN m).setCell ⟨wr.heap.size, 2, none⟩ e = (wr.alloc (.cells #[a, b, e, d] t)).drewN m := by
  show ((wr.alloc (.cells #[a, b, c, d] t)).setCell ⟨wr.heap.size, 2, none⟩ e).drewN m = _
  rw [World.setCell_alloc_at _ _ _ _ _ rfl]
  rfl
def TokAt (wr wx : World) (g : Nat) (k : Int) (T : ByteArray) (m : Int) (p : Nat) : Prop :=
  Below wr.heap.size wr wx /\ g < wx.heap.size /\ wx.cell? ⟨g, 0, none⟩ = some (.int .i64 k) /\ wx.cell? ⟨g, 1, none⟩ = some (.string T) /\ wx.cell? ⟨g, 2, none⟩ = some (.int .i64 m) /\ wx.cell? ⟨g, 3, none⟩ = some (.int .i64 p)
set_option maxRecDepth 100000 in
set_option maxHeartbeats 8000000 in
theorem rlex_any (s : ByteArray) (w : World) (hs : s.size <= 2147483647) :
    Calls Try.prog 15 #[.string s] w fun e w' => RLexPost s w e w' := by
  obtain ⟨i0, hi, hz0, hz1, hz2⟩ := info_parts info_rtok
  obtain ⟨R, hR⟩ : ∃ R, lexGo s s.size 0 [] = R := ⟨_, rfl⟩
  have HR := Lib.hid hR
  go_enter Try.func15, Try.ntmps15
  go_wp2_with fail
  go_loopw [5, 6] (fun v i wr => ∃ (p f : Nat) (acc : List Tok) (A : Option Addr) (n c : Nat), p <= s.size /\ s.size <= p + f /\ lexGo s f p acc = R /\ n = acc.length /\ n <= p /\ i = .int .i64 p /\ v = .slice A n c /\
      wr.ownsRow w.heap.size 123 4 (.slice A n c) n (tcells acc) /\ Below w.heap.size w wr)
    (fun _ i _ => s.size - (intOf i).toNat)
  case atStart => exact ⟨0, s.size, [], none, 0, 0, by omega, by omega, hR, rfl, by omega, rfl, rfl, World.ownsRow_nil _ _ _ _, Below.refl _ _⟩
  case round =>
    obtain ⟨p, f, acc, A, n, c, hp, hf, hgo, hn, hnp, rfl, rfl, hown, hbw⟩ := hrel
    clear hR
    have Hn := Lib.hid hn
    clear hn
    have Hgo := Lib.hid hgo
    clear hgo
    by_cases hlt : p < s.size
    · have hgd := getD_eq s p hlt
      rcases Bool.eq_false_or_eq_true (gapB (s[p].toNat : Int)) with hg | hg
      · have Hst := Lib.hid (go_gap hlt (by rw [hgd]; exact hg) hf Hgo.out)
        have hg2 : (s[p].toNat : Int) == 32 ∨ (((s[p].toNat : Int) == 32) = false /\ ((s[p].toNat : Int) == 10) = true) := by
          rcases Bool.eq_false_or_eq_true ((s[p].toNat : Int) == 32) with h | h
          · exact .inl h
          · refine .inr ⟨h, ?_⟩
            unfold gapB at hg
            rw [h, Bool.false_or] at hg
            exact hg
        clear hgd hg
        rcases hg2 with h32 | ⟨h32, h10⟩
        all_goals
          go_wp2_with fail
          go_roundw
          case rel =>
            obtain ⟨f', hf', hgo'⟩ := Hst.out
            exact ⟨p + 1, f', acc, A, n, c, by omega, hf', hgo', Hn.out, by omega, by go_num, rfl, hown, hbw⟩
          case measure => simp [intOf]; omega
      · have hgU : gapU (s.data.toList.getD p 0) = false := by rw [hgd]; exact hg
        have hhd : (s.data.toList.drop p).headD 0 = s[p] := by rw [head_drop, hgd]
        have h32 : ((s[p].toNat : Int) == 32) = false /\ ((s[p].toNat : Int) == 10) = false := by
          unfold gapB at hg
          rcases Bool.eq_false_or_eq_true ((s[p].toNat : Int) == 32) with h | h
          · rw [h] at hg; cases hg
          · rw [h, Bool.false_or] at hg
            exact ⟨h, hg⟩
        obtain ⟨h32, h10⟩ := h32
        clear hgd hg
        rcases Bool.eq_false_or_eq_true (letB (s[p].toNat : Int)) with hl | hl
        ·
          have hE0 : wordE (s.data.toList.drop p) = nameE (s.data.toList.drop p) := by
            unfold wordE
            rw [hhd, if_pos (show letU s[p] = true from hl)]
          obtain ⟨d, hd⟩ : ∃ d, lenOf alnU (s.data.toList.drop p) = d := ⟨_, rfl⟩
          have hd1 : p + d <= s.size := by
            have h1 := lenOf_le alnU (s.data.toList.drop p)
            have hl0 : s.data.toList.length = s.size := Array.length_toList
            rw [hd, List.length_drop, hl0] at h1
            omega
          have Hd := Lib.hid hd
          have HE0 := Lib.hid hE0
          clear hd hE0 hhd
          go_upto_block 2 with fail
          go_cut [8] from 12 to 146 (fun e8 wx => e8 = .int .i64 ((p + d : Nat) : Int) /\ wx = wr)
          case first =>
            go_wp2_with fail
            go_loop [8] (fun e => ∃ k : Nat, Run alnU s p k /\ e = .int .i64 k) (fun e => s.size - (intOf e).toNat)
            case atStart => exact ⟨p, Run.start (by omega), rfl⟩
            case round =>
              obtain ⟨k, hk, rfl⟩ := hrel
              have hk1 := hk.1
              have hk2 := hk.2.1
              by_cases hlt2 : k < s.size
              · rcases Bool.eq_false_or_eq_true (letB (s[k].toNat : Int)) with hl2 | hl2
                · go_wp2_with (first | (go_at_call 42; refine (rlet_any _ _).mono ?_; rintro e w' ⟨rfl, rfl⟩) | (go_at_call 43; refine (rdig_any _ _).mono ?_; rintro e w' ⟨rfl, rfl⟩))
                  go_round
                  case rel => exact ⟨k + 1, hk.step hlt2 (by simp [alnU, letU, hl2]), by go_num⟩
                  case measure => simp [intOf]; omega
                · rcases Bool.eq_false_or_eq_true (digB (s[k].toNat : Int)) with hd2 | hd2
                  · go_wp2_with (first | (go_at_call 42; refine (rlet_any _ _).mono ?_; rintro e w' ⟨rfl, rfl⟩) | (go_at_call 43; refine (rdig_any _ _).mono ?_; rintro e w' ⟨rfl, rfl⟩))
                    go_round
                    case rel => exact ⟨k + 1, hk.step hlt2 (by simp [alnU, digU, hd2]), by go_num⟩
                    case measure => simp [intOf]; omega
                  · have hn2 := hk.len (fun h => by rw [getD_eq s k h]; simp [alnU, letU, digU, hl2, hd2])
                    rw [Hd.out] at hn2
                    have Hkd := Lib.hid (show p + d = k by omega)
                    clear hn2
                    go_wp2_with (first | (go_at_call 42; refine (rlet_any _ _).mono ?_; rintro e w' ⟨rfl, rfl⟩) | (go_at_call 43; refine (rdig_any _ _).mono ?_; rintro e w' ⟨rfl, rfl⟩))
                    go_meet
                    case rel => exact ⟨by rw [Hkd.out], rfl⟩
              · have hn2 := hk.len (fun h => absurd h hlt2)
                rw [Hd.out] at hn2
                have Hkd := Lib.hid (show p + d = k by omega)
                clear hn2
                go_wp2_with fail
                go_meet
                case rel => exact ⟨by rw [Hkd.out], rfl⟩
          case rest =>
            obtain ⟨rfl, hwc⟩ := hcut
            have hwc2 := hwc.symm
            subst hwc2
            clear hwc
            obtain ⟨T, hT⟩ : ∃ T, s.extract p (p + d) = T := ⟨_, rfl⟩
            have hTs : T.size = d := by rw [← hT]; simp; omega
            have hTl : T.toList = (s.data.toList.drop p).take d := by
              rw [← hT, Lib.extract_toList, show p + d - p = d from by omega]
            have HTl := Lib.hid hTl
            clear hTl
            have hb0 : Below wr.heap.size wr (wr.alloc (.cells #[.int .i64 1, .string T, .int .i64 0, .int .i64 p] 123)).drew := (below_new (Below.refl _ wr) (Nat.le_refl _) _).drew
            have hsz0 : (wr.alloc (.cells #[.int .i64 1, .string T, .int .i64 0, .int .i64 p] 123)).drew.heap.size = wr.heap.size + 1 := by simp
            by_cases h12 : 12 < d
            · have Hfin := Lib.hid (lexR_err HR.out (go_err hlt hgU (e := 3) (by rw [HE0.out]; unfold nameE; rw [Hd.out, if_pos h12]) hf Hgo.out))
              go_upto_block 4 with fail
              go_wp2_with (go_at_call 42; refine (rlet_any _ _).mono ?_; rintro e w' ⟨rfl, rfl⟩)
              go_region
              go_wp2_with fail
              refine (rres_any T _).mono ?_
              rintro e w2 ⟨rfl, hb2⟩
              obtain ⟨hc, hfz⟩ := bcell hb2
              have hz : wr.heap.size < w2.heap.size := by have := hb2.size; rw [hsz0] at this; omega
              have hb3 : Below w.heap.size w w2 := (hbw.trans (hb0.mono hbw.size)).trans (hb2.mono (by rw [hsz0]; have := hbw.size; omega))
              clear hb2 hb0 hsz0
              rcases Bool.eq_false_or_eq_true (resB T.toList) with hr | hr
              · go_wp2_with fail
                go_ret3
                exact RLexPost.bad Hfin.out (hb3.setCell hbw.size _)
              · go_wp2_with fail
                go_ret3
                exact RLexPost.bad Hfin.out hb3
            · obtain ⟨kd, hkd⟩ : ∃ kd : Int, (if resB T.toList then 4 else 1) = kd := ⟨_, rfl⟩
              have hEok : wordE (s.data.toList.drop p) = .ok (kd, d, 0) := by
                rw [HE0.out]; unfold nameE; rw [Hd.out, if_neg h12, ← HTl.out, hkd]
              have hdp : 1 <= d := (wordE_ok (by have hl0 : s.data.toList.length = s.size := Array.length_toList; rw [List.length_drop, hl0]; omega) hEok).1
              have Hst := Lib.hid (go_word hlt hgU hEok hf hdp Hgo.out)
              have Hkd := Lib.hid hkd
              clear hEok hkd
              go_upto_block 4 with fail
              go_cut [8] from 12 to 146 (fun e8 wx => e8 = .int .i64 ((p + d : Nat) : Int) /\ TokAt wr wx wr.heap.size kd T 0 p)
              case first =>
                go_wp2_with (go_at_call 42; refine (rlet_any _ _).mono ?_; rintro e w' ⟨rfl, rfl⟩)
                go_region
                go_wp2_with fail
                refine (rres_any T _).mono ?_
                rintro e w2 ⟨rfl, hb2⟩
                obtain ⟨hc, hfz⟩ := bcell hb2
                have hz : wr.heap.size < w2.heap.size := by have := hb2.size; rw [hsz0] at this; omega
                have hb3 : Below wr.heap.size wr w2 := hb0.trans (hb2.mono (by rw [hsz0]; omega))
                have hc0 := hc wr.heap.size 0 (by rw [hsz0]; omega)
                have hc1 := hc wr.heap.size 1 (by rw [hsz0]; omega)
                have hc2 := hc wr.heap.size 2 (by rw [hsz0]; omega)
                have hc3 := hc wr.heap.size 3 (by rw [hsz0]; omega)
                simp at hc0 hc1 hc2 hc3
                clear hb2 hb0 hsz0
                rcases Bool.eq_false_or_eq_true (resB T.toList) with hr | hr
                · go_wp2_with fail
                  go_meet
                  case rel =>
                    have hk := Hkd.out
                    rw [if_pos hr] at hk
                    refine ⟨by go_num, hb3.setCell (Nat.le_refl _) _, by simpa using hz, ?_, ?_, ?_, ?_⟩
                    · rw [← hk]; go_simp
                    · go_simp
                    · go_simp
                    · go_simp
                · go_wp2_with fail
                  go_meet
                  case rel =>
                    have hk := Hkd.out
                    rw [if_neg (by rw [hr]; decide)] at hk
                    refine ⟨by go_num, hb3, hz, ?_, hc1, hc2, hc3⟩
                    rw [hc0, hk]
              case rest =>
                obtain ⟨rfl, hb4, hg4, t0, t1, t2, t3⟩ := hcut
                go_wp2_with (at_builtin; refine wpList_append_own _ rfl (.tmp 142) (.tmp 144) _ rfl w.heap.size 123 i0 _ 4 40 Try.underlying66 hi hz0 hz1 hz2 rfl (by decide) (.slice A n c) n _ rfl (own_later hown (below_new hb4 (Nat.le_refl _) _)) ⟨wc.heap.size, 0, none⟩ 1 1 [.int .i64 kd, .string T, .int .i64 0, .int .i64 p] rfl rfl ?c1 ?c2 ?c3 ?c4 ?c5 ?_)
                case c1 => exact cells_new _ _ _
                case c2 =>
                  intro u hu
                  simp at hu
                  rcases hu with rfl | rfl | rfl | rfl <;> rfl
                case c3 => unfold maxLen; omega
                case c4 => omega
                case c5 => have := hb4.size; have := hbw.size; simp; omega
                intro v' w3 hown' hgrow _
                obtain ⟨g, cap, hv⟩ := own_form hown' (by omega)
                have Hv := Lib.hid hv
                have Hl : Hid (n + 1 = (acc ++ [(⟨kd, T, 0, p⟩ : Tok)]).length) := by
                  show n + 1 = _
                  rw [List.length_append, ← Hn.out]
                  rfl
                have hown2 : w3.ownsRow w.heap.size 123 4 (.slice (some ⟨g, 0, none⟩) (n + 1) cap) (n + 1) (tcells (acc ++ [(⟨kd, T, 0, p⟩ : Tok)])) := by
                  rw [tcells_snoc, ← hv]
                  exact hown'
                have hB3 : Below w.heap.size w w3 := (hbw.trans ((below_new hb4 (Nat.le_refl _) _).mono hbw.size)).grown hgrow (by have := hb4.size; have := hbw.size; simp; omega) (fun b hb => (hown.lt b hb).1)
                clear hv hown' hgrow hown
                go_wp2_with fail
                go_roundw
                case rel =>
                  obtain ⟨f', hf', hgo'⟩ := Hst.out
                  exact ⟨p + d, f', acc ++ [(⟨kd, T, 0, p⟩ : Tok)], some ⟨g, 0, none⟩, n + 1, cap, by omega, hf', by rw [← hT]; exact hgo', Hl, by omega, by go_num, Hv.out, hown2, hB3⟩
                case measure => simp [intOf]; omega
        · rcases Bool.eq_false_or_eq_true (digB (s[p].toNat : Int)) with hdg | hdg
          ·
            have hE0 : wordE (s.data.toList.drop p) = numE (s.data.toList.drop p) := by
              unfold wordE
              rw [hhd, if_neg (show ¬ letU s[p] = true by show ¬ letB _ = true; rw [hl]; decide), if_pos (show digU s[p] = true from hdg)]
            obtain ⟨d, hd⟩ : ∃ d, lenOf alnU (s.data.toList.drop p) = d := ⟨_, rfl⟩
            have hd1 : p + d <= s.size := by
              have h1 := lenOf_le alnU (s.data.toList.drop p)
              have hl0 : s.data.toList.length = s.size := Array.length_toList
              rw [hd, List.length_drop, hl0] at h1
              omega
            obtain ⟨T, hT⟩ : ∃ T, s.extract p (p + d) = T := ⟨_, rfl⟩
            have hTs : T.size = d := by rw [← hT]; simp; omega
            have hTl : (s.data.toList.drop p).take d = T.data.toList := by
              rw [← hT, Lib.extract_data, show p + d - p = d from by omega]
            have hnum := numE_run (s.data.toList.drop p) T.data.toList d (by rw [hhd]; exact hdg) hd hTl
            rw [hhd] at hnum
            have h48 : s[p] = 48 ↔ ((s[p].toNat : Int) == 48) = true := by
              rw [beq_iff_eq]
              exact (u8_int s[p] 48).symm
            simp only [h48] at hnum
            have Hd := Lib.hid hd
            have HE0 := Lib.hid hE0
            have Hnum := Lib.hid hnum
            clear hd hE0 hhd hTl hnum h48
            go_upto_block 2 with fail
            go_cut [8] from 12 to 146 (fun e8 wx => e8 = .int .i64 ((p + d : Nat) : Int) /\ wx = wr)
            case first =>
              go_wp2_with fail
              go_loop [8] (fun e => ∃ k : Nat, Run alnU s p k /\ e = .int .i64 k) (fun e => s.size - (intOf e).toNat)
              case atStart => exact ⟨p, Run.start (by omega), rfl⟩
              case round =>
                obtain ⟨k, hk, rfl⟩ := hrel
                have hk1 := hk.1
                have hk2 := hk.2.1
                by_cases hlt2 : k < s.size
                · rcases Bool.eq_false_or_eq_true (letB (s[k].toNat : Int)) with hl2 | hl2
                  · go_wp2_with (first | (go_at_call 42; refine (rlet_any _ _).mono ?_; rintro e w' ⟨rfl, rfl⟩) | (go_at_call 43; refine (rdig_any _ _).mono ?_; rintro e w' ⟨rfl, rfl⟩))
                    go_round
                    case rel => exact ⟨k + 1, hk.step hlt2 (by simp [alnU, letU, hl2]), by go_num⟩
                    case measure => simp [intOf]; omega
                  · rcases Bool.eq_false_or_eq_true (digB (s[k].toNat : Int)) with hd2 | hd2
                    · go_wp2_with (first | (go_at_call 42; refine (rlet_any _ _).mono ?_; rintro e w' ⟨rfl, rfl⟩) | (go_at_call 43; refine (rdig_any _ _).mono ?_; rintro e w' ⟨rfl, rfl⟩))
                      go_round
                      case rel => exact ⟨k + 1, hk.step hlt2 (by simp [alnU, digU, hd2]), by go_num⟩
                      case measure => simp [intOf]; omega
                    · have hn2 := hk.len (fun h => by rw [getD_eq s k h]; simp [alnU, letU, digU, hl2, hd2])
                      rw [Hd.out] at hn2
                      have Hkd := Lib.hid (show p + d = k by omega)
                      clear hn2
                      go_wp2_with (first | (go_at_call 42; refine (rlet_any _ _).mono ?_; rintro e w' ⟨rfl, rfl⟩) | (go_at_call 43; refine (rdig_any _ _).mono ?_; rintro e w' ⟨rfl, rfl⟩))
                      go_meet
                      case rel => exact ⟨by rw [Hkd.out], rfl⟩
                · have hn2 := hk.len (fun h => absurd h hlt2)
                  rw [Hd.out] at hn2
                  have Hkd := Lib.hid (show p + d = k by omega)
                  clear hn2
                  go_wp2_with fail
                  go_meet
                  case rel => exact ⟨by rw [Hkd.out], rfl⟩
            case rest =>
              obtain ⟨rfl, hwc⟩ := hcut
              have hwc2 := hwc.symm
              subst hwc2
              clear hwc
              go_upto_block 4 with fail
              by_cases h10d : 10 < d
              · have Hfin := Lib.hid (lexR_err HR.out (go_err hlt hgU (e := 3) (by rw [HE0.out, Hnum.out, if_pos (.inl h10d)]) hf Hgo.out))
                go_wp2_with (first | (go_at_call 42; refine (rlet_any _ _).mono ?_; rintro e w' ⟨rfl, rfl⟩) | (go_at_call 43; refine (rdig_any _ _).mono ?_; rintro e w' ⟨rfl, rfl⟩))
                go_region
                go_wp2_with fail
                go_ret3
                exact RLexPost.bad Hfin.out (below_new hbw (by omega) _).drew
              · by_cases hz48 : 1 < d /\ ((s[p].toNat : Int) == 48) = true
                · obtain ⟨hz1, hz2⟩ := hz48
                  have Hfin := Lib.hid (lexR_err HR.out (go_err hlt hgU (e := 3) (by rw [HE0.out, Hnum.out, if_pos (.inr (.inl ⟨hz1, hz2⟩))]) hf Hgo.out))
                  go_wp2_with (first | (go_at_call 42; refine (rlet_any _ _).mono ?_; rintro e w' ⟨rfl, rfl⟩) | (go_at_call 43; refine (rdig_any _ _).mono ?_; rintro e w' ⟨rfl, rfl⟩))
                  go_region
                  go_wp2_with fail
                  go_ret3
                  exact RLexPost.bad Hfin.out (below_new hbw (by omega) _).drew
                · have hz : d <= 1 ∨ (1 < d /\ ((s[p].toNat : Int) == 48) = false) := by
                    rcases Bool.eq_false_or_eq_true ((s[p].toNat : Int) == 48) with h | h
                    · exact .inl (by have : ¬ 1 < d := fun hx => hz48 ⟨hx, h⟩; omega)
                    · by_cases h1 : 1 < d
                      · exact .inr ⟨h1, h⟩
                      · exact .inl (by omega)
                  by_cases hbad : lenOf digU T.data.toList < d ∨ 2147483647 < val T.data.toList
                  · have Hfin := Lib.hid (lexR_err HR.out (go_err hlt hgU (e := 3) (by rw [HE0.out, Hnum.out, if_pos (.inr (.inr hbad))]) hf Hgo.out))
                    have Hbad := Lib.hid hbad
                    clear hbad hz48
                    rcases hz with hz | ⟨hz, hz'⟩
                    all_goals
                      go_wp2_with (first | (go_at_call 42; refine (rlet_any _ _).mono ?_; rintro e w' ⟨rfl, rfl⟩) | (go_at_call 43; refine (rdig_any _ _).mono ?_; rintro e w' ⟨rfl, rfl⟩))
                      go_region
                      go_wp2_with fail
                      go_loopw [10] (fun i wx => ∃ (k m : Nat) (v : Int), Run digU T 0 k /\ Hid ((vl T 0 k : Int) = v) /\ 0 <= v /\ v < 10000000000 /\ i = .int .i64 k /\ wx = (wr.alloc (.cells #[.int .i64 2, .string T, .int .i64 v, .int .i64 p] 123)).drewN m) (fun i _ => d - (intOf i).toNat)
                      case atStart => exact ⟨0, 1, 0, Run.start (by omega), (show ((vl T 0 0 : Nat) : Int) = 0 by rw [vl_start]; rfl), by omega, by omega, rfl, rfl⟩
                      case round =>
                        obtain ⟨k, m, v, hk, hv, hv0, hv1, rfl, rfl⟩ := hrel
                        have hk2 := hk.2.1
                        by_cases hkd : k < d
                        · have hkT : k < T.size := by omega
                          rcases Bool.eq_false_or_eq_true (digB (T[k].toNat : Int)) with hdk | hdk
                          · have hb48 : 48 <= (T[k].toNat : Int) /\ (T[k].toNat : Int) <= 57 := by simpa [digB] using hdk
                            obtain ⟨hb1, hb2⟩ := hb48
                            have hst := vl_step T 0 k (by omega) hkT
                            have hrun := hk.step hkT (show digU T[k] = true from hdk)
                            have hfew := hrun.few (by omega)
                            have Hst := Lib.hid (show ((vl T 0 (k + 1) : Nat) : Int) = 10 * v + ((T[k].toNat : Int) - 48) by rw [hst]; have := hv.out; omega)
                            have hnew0 : 0 <= 10 * v + ((T[k].toNat : Int) - 48) := by omega
                            have hnew1 : 10 * v + ((T[k].toNat : Int) - 48) < 10000000000 := by rw [← Hst.out]; omega
                            clear hst hfew
                            go_wp2_with (first | (go_at_call 42; refine (rlet_any _ _).mono ?_; rintro e w' ⟨rfl, rfl⟩) | (go_at_call 43; refine (rdig_any _ _).mono ?_; rintro e w' ⟨rfl, rfl⟩))
                            go_region
                            go_wp2_with fail
                            go_roundw
                            case rel => exact ⟨k + 1, _, _, hrun, Hst.out, hnew0, hnew1, by go_num, set_num _ _ _ _ _ _ _ _⟩
                            case measure => simp [intOf]; omega
                          · go_wp2_with (first | (go_at_call 42; refine (rlet_any _ _).mono ?_; rintro e w' ⟨rfl, rfl⟩) | (go_at_call 43; refine (rdig_any _ _).mono ?_; rintro e w' ⟨rfl, rfl⟩))
                            go_ret3
                            exact RLexPost.bad Hfin.out (below_drewN (below_new hbw (by omega) _) _)
                        · have hkd2 : k = d := by omega
                          have hlast : 2147483647 < v := by
                            have h1 : lenOf digU T.data.toList = d := by rw [← hkd2]; exact hk.whole (by omega)
                            have h2 := Hbad.out.resolve_left (by omega)
                            have h3 := hk.val_whole (by omega)
                            have h4 := hv.out
                            omega
                          clear hkd2
                          go_wp2_with fail
                          go_ret3
                          exact RLexPost.bad Hfin.out (below_drewN (below_new hbw (by omega) _) _)
                  · have hlen : lenOf digU T.data.toList = d := by
                      have h1 := lenOf_le digU T.data.toList
                      have h2 : T.data.toList.length = d := by rw [← hTs]; exact Array.length_toList
                      omega
                    have hvb : ¬ 2147483647 < val T.data.toList := fun h => hbad (.inr h)
                    obtain ⟨vv, hvv⟩ : ∃ vv : Int, (val T.data.toList : Int) = vv := ⟨_, rfl⟩
                    have hEok : wordE (s.data.toList.drop p) = .ok (2, d, vv) := by
                      rw [HE0.out, Hnum.out, if_neg (fun h => h.elim h10d (fun h => h.elim hz48 hbad)), hvv]
                    have hdp : 1 <= d := (wordE_ok (by have hl0 : s.data.toList.length = s.size := Array.length_toList; rw [List.length_drop, hl0]; omega) hEok).1
                    have Hst := Lib.hid (go_word hlt hgU hEok hf hdp Hgo.out)
                    have Hvv := Lib.hid hvv
                    clear hEok hvv hbad hz48
                    go_cut [8] from 12 to 146 (fun e8 wx => e8 = .int .i64 ((p + d : Nat) : Int) /\ TokAt wr wx wr.heap.size 2 T vv p)
                    case first =>
                      rcases hz with hz | ⟨hz, hz'⟩
                      all_goals
                        go_wp2_with (first | (go_at_call 42; refine (rlet_any _ _).mono ?_; rintro e w' ⟨rfl, rfl⟩) | (go_at_call 43; refine (rdig_any _ _).mono ?_; rintro e w' ⟨rfl, rfl⟩))
                        go_region
                        go_wp2_with fail
                        go_loopw [10] (fun i wx => ∃ (k m : Nat) (v : Int), Run digU T 0 k /\ Hid ((vl T 0 k : Int) = v) /\ 0 <= v /\ v < 10000000000 /\ i = .int .i64 k /\ wx = (wr.alloc (.cells #[.int .i64 2, .string T, .int .i64 v, .int .i64 p] 123)).drewN m) (fun i _ => d - (intOf i).toNat)
                        case atStart => exact ⟨0, 1, 0, Run.start (by omega), (show ((vl T 0 0 : Nat) : Int) = 0 by rw [vl_start]; rfl), by omega, by omega, rfl, rfl⟩
                        case round =>
                          obtain ⟨k, m, v, hk, hv, hv0, hv1, rfl, rfl⟩ := hrel
                          have hk2 := hk.2.1
                          by_cases hkd : k < d
                          · have hkT : k < T.size := by omega
                            rcases Bool.eq_false_or_eq_true (digB (T[k].toNat : Int)) with hdk | hdk
                            · have hb48 : 48 <= (T[k].toNat : Int) /\ (T[k].toNat : Int) <= 57 := by simpa [digB] using hdk
                              obtain ⟨hb1, hb2⟩ := hb48
                              have hst := vl_step T 0 k (by omega) hkT
                              have hrun := hk.step hkT (show digU T[k] = true from hdk)
                              have hfew := hrun.few (by omega)
                              have Hst := Lib.hid (show ((vl T 0 (k + 1) : Nat) : Int) = 10 * v + ((T[k].toNat : Int) - 48) by rw [hst]; have := hv.out; omega)
                              have hnew0 : 0 <= 10 * v + ((T[k].toNat : Int) - 48) := by omega
                              have hnew1 : 10 * v + ((T[k].toNat : Int) - 48) < 10000000000 := by rw [← Hst.out]; omega
                              clear hst hfew
                              go_wp2_with (first | (go_at_call 42; refine (rlet_any _ _).mono ?_; rintro e w' ⟨rfl, rfl⟩) | (go_at_call 43; refine (rdig_any _ _).mono ?_; rintro e w' ⟨rfl, rfl⟩))
                              go_region
                              go_wp2_with fail
                              go_roundw
                              case rel => exact ⟨k + 1, _, _, hrun, Hst.out, hnew0, hnew1, by go_num, set_num _ _ _ _ _ _ _ _⟩
                              case measure => simp [intOf]; omega
                            · exact absurd (hk.part hkT hdk hlen) (by omega)
                          · have hkd2 : k = d := by omega
                            have hveq : v = vv := by
                              have h3 := hk.val_whole (by omega)
                              rw [← hv.out, ← Hvv.out, h3]
                            have Hveq := Lib.hid hveq
                            have hlast : v <= 2147483647 := by
                              have h1 := Hvv.out
                              have h2 := Hveq.out
                              omega
                            clear hkd2 hveq
                            go_wp2_with fail
                            go_meet
                            case rel =>
                              refine ⟨by go_num, below_drewN (below_new (Below.refl _ _) (Nat.le_refl _) _) _, by simp, ?_, ?_, ?_, ?_⟩
                              · go_simp
                              · go_simp
                              · rw [← Hveq.out]; go_simp
                              · go_simp
                    case rest =>
                      obtain ⟨rfl, hb4, hg4, t0, t1, t2, t3⟩ := hcut
                      go_wp2_with (at_builtin; refine wpList_append_own _ rfl (.tmp 142) (.tmp 144) _ rfl w.heap.size 123 i0 _ 4 40 Try.underlying66 hi hz0 hz1 hz2 rfl (by decide) (.slice A n c) n _ rfl (own_later hown (below_new hb4 (Nat.le_refl _) _)) ⟨wc.heap.size, 0, none⟩ 1 1 [.int .i64 2, .string T, .int .i64 vv, .int .i64 p] rfl rfl ?c1 ?c2 ?c3 ?c4 ?c5 ?_)
                      case c1 => exact cells_new _ _ _
                      case c2 =>
                        intro u hu
                        simp at hu
                        rcases hu with rfl | rfl | rfl | rfl <;> rfl
                      case c3 => unfold maxLen; omega
                      case c4 => omega
                      case c5 => have := hb4.size; have := hbw.size; simp; omega
                      intro v' w3 hown' hgrow _
                      obtain ⟨g, cap, hv⟩ := own_form hown' (by omega)
                      have Hv := Lib.hid hv
                      have Hl : Hid (n + 1 = (acc ++ [(⟨2, T, vv, p⟩ : Tok)]).length) := by
                        show n + 1 = _
                        rw [List.length_append, ← Hn.out]
                        rfl
                      have hown2 : w3.ownsRow w.heap.size 123 4 (.slice (some ⟨g, 0, none⟩) (n + 1) cap) (n + 1) (tcells (acc ++ [(⟨2, T, vv, p⟩ : Tok)])) := by
                        rw [tcells_snoc, ← hv]
                        exact hown'
                      have hB3 : Below w.heap.size w w3 := (hbw.trans ((below_new hb4 (Nat.le_refl _) _).mono hbw.size)).grown hgrow (by have := hb4.size; have := hbw.size; simp; omega) (fun b hb => (hown.lt b hb).1)
                      clear hv hown' hgrow hown
                      go_wp2_with fail
                      go_roundw
                      case rel =>
                        obtain ⟨f', hf', hgo'⟩ := Hst.out
                        exact ⟨p + d, f', acc ++ [(⟨2, T, vv, p⟩ : Tok)], some ⟨g, 0, none⟩, n + 1, cap, by omega, hf', by rw [← hT]; exact hgo', Hl, by omega, by go_num, Hv.out, hown2, hB3⟩
                      case measure => simp [intOf]; omega
          ·
            have hE0 : wordE (s.data.toList.drop p) = sgnE (s.data.toList.drop p) := by
              unfold wordE
              rw [hhd, if_neg (show ¬ letU s[p] = true by show ¬ letB _ = true; rw [hl]; decide), if_neg (show ¬ digU s[p] = true by show ¬ digB _ = true; rw [hdg]; decide)]
            obtain ⟨d, hd⟩ : ∃ d, sgnLen (s.data.toList.drop p) = d := ⟨_, rfl⟩
            have hd1 : p + d <= s.size := by
              have h1 := sgnLen_le (s.data.toList.drop p)
              have hl0 : s.data.toList.length = s.size := Array.length_toList
              rw [hd, List.length_drop, hl0] at h1
              omega
            have Hd := Lib.hid hd
            have HE0 := Lib.hid hE0
            clear hd hE0 hhd
            go_upto_block 2 with fail
            go_cut [8] from 12 to 146 (fun e8 wx => e8 = .int .i64 p /\ wx = wr)
            case first =>
              go_wp2_with fail
              go_loop [8] (fun e => e = .int .i64 p) (fun _ => 0)
              case atStart => rfl
              case round =>
                subst hrel
                go_wp2_with (first | (go_at_call 42; refine (rlet_any _ _).mono ?_; rintro e w' ⟨rfl, rfl⟩) | (go_at_call 43; refine (rdig_any _ _).mono ?_; rintro e w' ⟨rfl, rfl⟩))
                go_meet
                case rel => exact ⟨rfl, rfl⟩
            case rest =>
              obtain ⟨rfl, hwc⟩ := hcut
              have hwc2 := hwc.symm
              subst hwc2
              clear hwc
              go_upto_block 4 with fail
              have hsz0 : (wr.alloc (.cells #[.int .i64 0, .string ⟨#[]⟩, .int .i64 0, .int .i64 p] 123)).heap.size = wr.heap.size + 1 := by simp
              have hb0 : Below wr.heap.size wr (wr.alloc (.cells #[.int .i64 0, .string ⟨#[]⟩, .int .i64 0, .int .i64 p] 123)) := below_new (Below.refl _ wr) (Nat.le_refl _) _
              by_cases hd0 : d = 0
              · have Hfin := Lib.hid (lexR_err HR.out (go_err hlt hgU (e := 2) (by rw [HE0.out]; unfold sgnE; rw [Hd.out, if_pos hd0]) hf Hgo.out))
                subst hd0
                go_wp2_with (first | (go_at_call 42; refine (rlet_any _ _).mono ?_; rintro e w' ⟨rfl, rfl⟩) | (go_at_call 43; refine (rdig_any _ _).mono ?_; rintro e w' ⟨rfl, rfl⟩))
                refine (rsign_at s p _ (by omega) hlt Hd.out).mono ?_
                rintro e w2 ⟨rfl, hb2⟩
                go_wp2_with fail
                go_ret3
                exact RLexPost.bad Hfin.out ((hbw.trans (hb0.mono hbw.size)).trans (hb2.mono (by rw [hsz0]; have := hbw.size; omega)))
              · have hEok : wordE (s.data.toList.drop p) = .ok (3, d, 0) := by rw [HE0.out]; unfold sgnE; rw [Hd.out, if_neg hd0]
                have hdp : 1 <= d := by omega
                have hnz : ((d : Int) == 0) = false := by rw [beq_eq_false_iff_ne]; omega
                obtain ⟨T, hT⟩ : ∃ T, s.extract p (p + d) = T := ⟨_, rfl⟩
                have Hst := Lib.hid (go_word hlt hgU hEok hf hdp Hgo.out)
                clear hEok hd0
                go_cut [8] from 12 to 146 (fun e8 wx => e8 = .int .i64 ((p + d : Nat) : Int) /\ TokAt wr wx wr.heap.size 3 T 0 p)
                case first =>
                  go_wp2_with (first | (go_at_call 42; refine (rlet_any _ _).mono ?_; rintro e w' ⟨rfl, rfl⟩) | (go_at_call 43; refine (rdig_any _ _).mono ?_; rintro e w' ⟨rfl, rfl⟩))
                  refine (rsign_at s p _ (by omega) hlt Hd.out).mono ?_
                  rintro e w2 ⟨rfl, hb2⟩
                  obtain ⟨hc, hfz⟩ := bcell hb2
                  have hz : wr.heap.size < w2.heap.size := by have := hb2.size; rw [hsz0] at this; omega
                  have hb3 : Below wr.heap.size wr w2 := hb0.trans (hb2.mono (by rw [hsz0]; omega))
                  have hc0 := hc wr.heap.size 0 (by rw [hsz0]; omega)
                  have hc1 := hc wr.heap.size 1 (by rw [hsz0]; omega)
                  have hc2 := hc wr.heap.size 2 (by rw [hsz0]; omega)
                  have hc3 := hc wr.heap.size 3 (by rw [hsz0]; omega)
                  have hf0 := hfz wr.heap.size 0 (by rw [hsz0]; omega)
                  have hf1 := hfz wr.heap.size 1 (by rw [hsz0]; omega)
                  simp at hc0 hc1 hc2 hc3
                  rw [World.frozen?_alloc_at _ _ _ _ rfl] at hf0 hf1
                  clear hb2 hb0 hsz0 hc hfz
                  go_wp2_with fail
                  go_region
                  go_wp2_with fail
                  go_meet
                  case rel =>
                    refine ⟨by go_num, ((hb3.setCell (Nat.le_refl _) _).setCell (Nat.le_refl _) _).drew, by simpa using hz, ?_, ?_, ?_, ?_⟩
                    · go_simp
                    · go_simp
                    · go_simp
                    · go_simp
                case rest =>
                  obtain ⟨rfl, hb4, hg4, t0, t1, t2, t3⟩ := hcut
                  go_wp2_with (at_builtin; refine wpList_append_own _ rfl (.tmp 142) (.tmp 144) _ rfl w.heap.size 123 i0 _ 4 40 Try.underlying66 hi hz0 hz1 hz2 rfl (by decide) (.slice A n c) n _ rfl (own_later hown (below_new hb4 (Nat.le_refl _) _)) ⟨wc.heap.size, 0, none⟩ 1 1 [.int .i64 3, .string T, .int .i64 0, .int .i64 p] rfl rfl ?c1 ?c2 ?c3 ?c4 ?c5 ?_)
                  case c1 => exact cells_new _ _ _
                  case c2 =>
                    intro u hu
                    simp at hu
                    rcases hu with rfl | rfl | rfl | rfl <;> rfl
                  case c3 => unfold maxLen; omega
                  case c4 => omega
                  case c5 => have := hb4.size; have := hbw.size; simp; omega
                  intro v' w3 hown' hgrow _
                  obtain ⟨g, cap, hv⟩ := own_form hown' (by omega)
                  have Hv := Lib.hid hv
                  have Hl : Hid (n + 1 = (acc ++ [(⟨3, T, 0, p⟩ : Tok)]).length) := by
                    show n + 1 = _
                    rw [List.length_append, ← Hn.out]
                    rfl
                  have hown2 : w3.ownsRow w.heap.size 123 4 (.slice (some ⟨g, 0, none⟩) (n + 1) cap) (n + 1) (tcells (acc ++ [(⟨3, T, 0, p⟩ : Tok)])) := by
                    rw [tcells_snoc, ← hv]
                    exact hown'
                  have hB3 : Below w.heap.size w w3 := (hbw.trans ((below_new hb4 (Nat.le_refl _) _).mono hbw.size)).grown hgrow (by have := hb4.size; have := hbw.size; simp; omega) (fun b hb => (hown.lt b hb).1)
                  clear hv hown' hgrow hown
                  go_wp2_with fail
                  go_roundw
                  case rel =>
                    obtain ⟨f', hf', hgo'⟩ := Hst.out
                    exact ⟨p + d, f', acc ++ [(⟨3, T, 0, p⟩ : Tok)], some ⟨g, 0, none⟩, n + 1, cap, by omega, hf', by rw [← hT]; exact hgo', Hl, by omega, by go_num, Hv.out, hown2, hB3⟩
                  case measure => simp [intOf]; omega
    · have hend := go_end (by omega) Hgo.out
      by_cases hn2 : n <= 2000
      · have Hfin := Lib.hid (lexR_ok HR.out hend (by rw [← Hn.out]; exact hn2))
        clear hend
        go_wp2_with fail
        go_ret3
        exact RLexPost.good Hfin.out Hn.out hown hbw
      · have Hfin := Lib.hid (lexR_long HR.out hend (by rw [← Hn.out]; omega))
        clear hend
        go_wp2_with fail
        go_ret3
        exact RLexPost.bad Hfin.out hbw
end Go.Proofs.Ytbhbjhejkamlnaa
namespace Go.Proofs.Ytbhbjhejkamlnaa.Sx.Z
open Go.RowKit
theorem rtok_eks : eks 123 = [.int .i64, .str, .int .i64, .int .i64] := by rfl
def rlxS : FSpec := fun ds _ => match ds with
  | [.s s] => some { val := .tup [.sc (.rows 123 (tokD (lexR s).1)), .sc (.int .i64 (.sym ((lexR s).2.1 : Nat))), .sc (.int .i64 (.sym (lexR s).2.2))], vc := [s.size <= 2147483647] }
  | _ => none
def rlxC : Con := con [.sc .str] rlxS
theorem rlx_rel {fz : Fz} {l : List Tok} {A : Option Addr} {c : Nat} {base : Nat} {w : World} (h : w.ownsRow base 123 4 (.slice A l.length c) l.length (tcells l)) (hf : ∀ g cur, base <= g -> w.heap[g]? = some (.cells cur 123 (0, 0)) -> A = some ⟨g, 0, none⟩ -> fz g = some cur) : TRel fz (.slice 123) (tokD l) (.slice A l.length c) := by
  rcases h.2 with ⟨hv, h0⟩ | ⟨g, cap, cur, hv, hg, hh, h1, h2, h3, h4⟩
  · rw [hv]
    exact .nil _ _ (by rw [tokD_len]; exact h0)
  · obtain ⟨hA, _, hc⟩ := Value.slice.inj hv
    subst hA hc
    by_cases h0 : l.length = 0
    · rw [h0]
      exact .empty _ _ _ _ (by rw [tokD_len]; exact h0)
    · have hF := hf g cur hg hh rfl
      have hat : ∀ i j t, l[i]? = some t -> j < 4 -> cur[i * 4 + j]? = (tokV t)[j]? := fun i j t ht hj => by
        have e := tcells_get ht hj
        rw [← h4] at e
        have hi : i < l.length := lt_of_get ht
        rw [List.getElem?_take_of_lt (by omega), Array.getElem?_toList] at e
        exact e
      rw [show Value.slice (some ⟨g, 0, none⟩) l.length c = Value.slice (some ⟨g, 0, none⟩) (tokD l).len c by rw [tokD_len]]
      refine .slice _ _ _ _ _ (fun i j => (cur[i * 4 + j]?).getD undef) (by rw [tokD_len]; exact h1) (fun i j hi hj => ?_) (fun i j k hi hk => ?_)
      · rw [tokD_len] at hi
        have hj4 : j < 4 := hj
        have e := hat i j _ (List.getElem?_eq_getElem hi) hj4
        have e2 : (tokV l[i])[j]? = some (tokV l[i])[j] := List.getElem?_eq_getElem (by show j < 4; exact hj4)
        rw [e2] at e
        show Fz.cell fz g (0 + i * 4 + j) = _
        rw [Nat.zero_add, e]
        unfold Fz.cell
        rw [hF]
        exact e
      · rw [tokD_len] at hi
        have ht := List.getElem?_eq_getElem hi
        rw [tokD_el ht]
        rw [rtok_eks] at hk
        match j, hk with
        | 0, hk => obtain rfl := Option.some.inj hk; rw [hat i 0 _ ht (by omega)]; exact .int _ (.i _)
        | 1, hk => obtain rfl := Option.some.inj hk; rw [hat i 1 _ ht (by omega)]; exact .str (.s _)
        | 2, hk => obtain rfl := Option.some.inj hk; rw [hat i 2 _ ht (by omega)]; exact .int _ (.i _)
        | 3, hk => obtain rfl := Option.some.inj hk; rw [hat i 3 _ ht (by omega)]; exact .int _ (.i _)
        | j + 4, hk => simp at hk
def rlxF (f : Fz) (w w' : World) (A : Option Addr) : Fz := fun b => match A with | some a => if b = a.block /\ w.heap.size <= b then cellsAt w' b else f b | none => f b
theorem rlxF_or {f : Fz} {w w' : World} {A : Option Addr} {b : Nat} {cs : Array Value} (h : rlxF f w w' A b = some cs) : f b = some cs ∨ (w.heap.size <= b /\ cellsAt w' b = some cs) := by
  unfold rlxF at h
  split at h
  · split at h
    · rename_i hh; exact .inr ⟨hh.2, h⟩
    · exact .inl h
  · exact .inl h
theorem rlx_ok : ConOK Try.prog 15 rlxC := by
  refine ⟨fun _ _ => by kernel_rfl, fun hp fr args e he hv w0 w ρ vs hw _ ha => ?_, fun _ _ _ _ h => nomatch (con_jf _ _ _ _ _).symm.trans h⟩
  unfold rlxC con at he
  split at he
  · rename_i ds ps hds
    split at he
    · rename_i e1 he1
      unfold rlxS at he1
      split at he1
      · rename_i s
        obtain rfl := Option.some.inj he1
        obtain rfl := Option.some.inj he
        obtain ⟨hp1, hp2⟩ := all_append.1 hv
        obtain ⟨svs, h, ρ1, id, hun, _, _, hrel⟩ := unP_spec hw [.sc .str] args _ ps hds hp1 vs ha (ids := keepOwn hp (idsX hp args)) (fun i hi ho => keepOwn_mem.2 ⟨hi, ho⟩) 0
        obtain rfl : svs = _ := (congrArg Prod.fst (Option.some.inj hun)).symm
        match vs, hrel with
        | [x], ⟨hx, _⟩ =>
          have hx : x = .string s := hx
          subst hx
          refine (rlex_any s w hp2.1).mono ?_
          rintro en w' ⟨A, c, rfl, hown, hb⟩
          have hle : FzLe ρ.fz (rlxF ρ.fz w w' A) := fun b cs hbc => by
            unfold rlxF
            split
            · split
              · rename_i hh
                rw [hw.froz.new hh.2] at hbc; cases hbc
              · exact hbc
            · exact hbc
          have hrel2 : TRel (rlxF ρ.fz w w' A) (.slice 123) (tokD (lexR s).1) (.slice A (lexR s).1.length c) := rlx_rel hown fun g cur hg hh hA => by
            subst hA
            show (if g = g /\ w.heap.size <= g then cellsAt w' g else ρ.fz g) = some cur
            rw [if_pos ⟨rfl, hg⟩]
            unfold cellsAt
            rw [hh]
          refine ⟨{ ρ with fz := rlxF ρ.fz w w' A }, _, rfl, ⟨_, rfl, hrel2, rfl, rfl, trivial⟩, ⟨⟨fun _ _ h => h, fun _ _ => rfl, hle, rfl, rfl⟩, fun _ _ => rfl, hb.mono (Nat.zero_le _), fun b hlt _ => hb.block b hlt, fun i x hx => ?_, fun i x hx => ?_, fun i j x y hx => ?_, fun b cs hcs => ?_⟩⟩
          · have hx' : look (kills (keepOwn hp (idsX hp args))) i = some x := hx
            rw [(kills_look hx').1]; trivial
          · cases hx
          · cases hx
          · rcases rlxF_or hcs with h1 | ⟨h1, h2⟩
            · exact .inl h1
            · exact .inr ⟨.inl h1, cellsAt_some h2, fun _ _ h => by cases h⟩
      · cases he1
    · cases he
  · cases he
end Go.Proofs.Ytbhbjhejkamlnaa.Sx.Z
namespace Go.Proofs.Ytbhbjhejkamlnaa.Sx
def famD (s : St) (sl : Slots) (ks : List Nat) (es : Heap) (ids : List Nat) : St := { tm := sl ++ keepS s.tm ks, hp := es ++ s.hp.filter (fun e => !(ids.any (Nat.beq e.1))), nx := s.nx + 1 }
end Go.Proofs.Ytbhbjhejkamlnaa.Sx
namespace Go.Proofs.Ytbhbjhejkamlnaa.Sx.Z
open Go.RowKit
def wuA (ws : D) (en : Int) (r : Rd) : Rd := muR ws en obB (wnR ws en 1 r)
def wuX (ws : D) (en : Int) (r : Rd) : Rd := wnR ws en 1 (wnR ws en 2 r)
def wuF (ws : D) (en : Int) (r : Rd) : List D × Rd := ([.i (wnN ws r), .s (wnS ws (wnR ws en 2 r)), .i (wnN ws (wuX ws en r))], muR ws en seB (wnR ws en 2 (wuX ws en r)))
def wuM (ws : D) (en : Int) (r : Rd) : D × Rd := seqE (wmG ws) (wuF ws en) ws (.l []) (wuA ws en r)
def wuZ (ws : D) (en : Int) (r : Rd) : Ru := ⟨wnS ws r, (wuM ws en r).1⟩
def wuR (ws : D) (en : Int) (r : Rd) : Rd := muR ws en cbB (wuM ws en r).2
theorem wu_up {ws : D} (en : Int) {r : Rd} (h : rdOK ws r.nx) : rdOK ws (wnR ws en 2 r).nx /\ rdOK ws (wuX ws en r).nx /\ rdOK ws (wnR ws en 2 (wuX ws en r)).nx /\ rdOK ws (wuF ws en r).2.nx /\ (wnR ws en 2 r).nx <= (wuF ws en r).2.nx /\ r.nx <= (wuF ws en r).2.nx := by
  have a := wn_up en 2 h
  have b := wn_up en 1 a.1
  have c := wn_up en 2 b.1
  have d := mu_up en (t := seB) c.1
  have e := Int.le_trans b.2 (Int.le_trans c.2 d.2)
  exact ⟨a.1, b.1, c.1, d.1, e, Int.le_trans a.2 e⟩
theorem wu_se {ws : D} (en : Int) : SeOK ws (wmG ws) (wuF ws en) := ⟨fun r h hg => by
  have h0 : r.er = 0 := by
    unfold wmG at hg
    simp only [Bool.and_eq_true] at hg
    exact eq_of_beq hg.1
  obtain ⟨_, _, _, e1, e2, e3⟩ := wu_up en h
  refine ⟨e1, e3, lfm_lt h0 h e1 fun hz => ?_⟩
  have k2 := isB_lt (mu_er (hz : (muR ws en seB (wnR ws en 2 (wuX ws en r))).er = 0))
  have k3 := kiB_lt (wn_er k2.1)
  have k4 := kiB_lt (wn_er (k3.1 : (wnR ws en 1 (wnR ws en 2 r)).er = 0))
  have k5 := wn_er k4.1
  have e : (wnR ws en 2 r).nx = r.nx + 1 := by rw [show wnR ws en 2 r = gx r from if_pos k5]; rfl
  omega⟩
theorem wuR_up {ws : D} (en : Int) {r : Rd} (h : rdOK ws r.nx) : rdOK ws (wnR ws en 1 r).nx /\ rdOK ws (wuA ws en r).nx /\ rdOK ws (wuM ws en r).2.nx /\ rdOK ws (wuR ws en r).nx /\ r.nx <= (wuR ws en r).nx := by
  have a := wn_up en 1 h
  have b := mu_up en (t := obB) a.1
  have c := se_up (wu_se en) (.l []) b.1
  have d := mu_up en (t := cbB) c.1
  exact ⟨a.1, b.1, c.1, d.1, Int.le_trans a.2 (Int.le_trans b.2 (Int.le_trans c.2 d.2))⟩
def wvF (ws : D) (en : Int) (r : Rd) : List D × Rd := ([.s (wnS ws (gx r))], muR ws en seB (wnR ws en 1 (gx r)))
def wpV (ws : D) (en : Int) (r : Rd) : D × Rd := seqA (wkG kwV ws) (wvF ws en) ws (.l []) (wuA ws en r)
def wpB (ws : D) (en : Int) (r : Rd) : D × Rd := wtX en ws 0 (wpV ws en r).2
def wpZ (ws : D) (en : Int) (r : Rd) : Po := ⟨wnS ws r, (wpV ws en r).1, (wpB ws en r).1⟩
def wpR (ws : D) (en : Int) (r : Rd) : Rd := muR ws en cbB (wpB ws en r).2
theorem wvF_sq {ws : D} (en : Int) : SqOK ws (wkG kwV ws) (wvF ws en) := ⟨fun r h hg => by
  have g := gx_up h (isB_lt hg).2
  have b := wn_up en 1 g.1
  have d := mu_up en (t := seB) b.1
  have e : (gx r).nx = r.nx + 1 := rfl
  have f : (gx r).nx <= (wvF ws en r).2.nx := Int.le_trans b.2 d.2
  exact ⟨d.1, by omega⟩⟩
theorem wpR_up {ws : D} (en : Int) {r : Rd} (h : rdOK ws r.nx) : rdOK ws (wnR ws en 1 r).nx /\ rdOK ws (wuA ws en r).nx /\ rdOK ws (wpV ws en r).2.nx /\ rdOK ws (wpB ws en r).2.nx /\ rdOK ws (wpR ws en r).nx /\ r.nx <= (wpR ws en r).nx := by
  have a := wn_up en 1 h
  have b := mu_up en (t := obB) a.1
  have c := seq_up (wvF_sq en) (.l []) b.1
  have m := (wtX_up en ws 0).up _ c.1
  have d := mu_up en (t := cbB) m.2
  exact ⟨a.1, b.1, c.1, m.2, d.1, Int.le_trans a.2 (Int.le_trans b.2 (Int.le_trans c.2 (Int.le_trans m.1 d.2)))⟩
def wyF0 (ws : D) (en : Int) (r : Rd) : List D × Rd := ((wkZ ws en (gx r)).row, wkR ws en (gx r))
def wyF1 (ws : D) (en : Int) (r : Rd) : List D × Rd := ((wuZ ws en (gx r)).row, wuR ws en (gx r))
def wyF2 (ws : D) (en : Int) (r : Rd) : List D × Rd := ((wpZ ws en (gx r)).row, wpR ws en (gx r))
def wyC (ws : D) (en : Int) (r : Rd) : D × Rd := seqA (wkG kwC ws) (wyF0 ws en) ws (.l []) r
def wyU (ws : D) (en : Int) (r : Rd) : D × Rd := seqA (wkG kwU ws) (wyF1 ws en) ws (.l []) (wyC ws en r).2
def wyP (ws : D) (en : Int) (r : Rd) : D × Rd := seqA (wkG kwP ws) (wyF2 ws en) ws (.l []) (wyU ws en r).2
def wyR (ws : D) (en : Int) (r : Rd) : Rd := if (wyP ws en r).2.nx < ws.len then ffR ws en 5 (wyP ws en r).2 else (wyP ws en r).2
theorem wy0_sq {ws : D} (en : Int) : SqOK ws (wkG kwC ws) (wyF0 ws en) := ⟨fun r h hg => by
  have g := gx_up h (isB_lt hg).2
  have b := wkR_up en g.1
  have e : (gx r).nx = r.nx + 1 := rfl
  have f : (gx r).nx <= (wyF0 ws en r).2.nx := b.2
  exact ⟨b.1, by omega⟩⟩
theorem wy1_sq {ws : D} (en : Int) : SqOK ws (wkG kwU ws) (wyF1 ws en) := ⟨fun r h hg => by
  have g := gx_up h (isB_lt hg).2
  have b := (wuR_up en g.1).2.2.2
  have e : (gx r).nx = r.nx + 1 := rfl
  have f : (gx r).nx <= (wyF1 ws en r).2.nx := b.2
  exact ⟨b.1, by omega⟩⟩
theorem wy2_sq {ws : D} (en : Int) : SqOK ws (wkG kwP ws) (wyF2 ws en) := ⟨fun r h hg => by
  have g := gx_up h (isB_lt hg).2
  have b := (wpR_up en g.1).2.2.2.2
  have e : (gx r).nx = r.nx + 1 := rfl
  have f : (gx r).nx <= (wyF2 ws en r).2.nx := b.2
  exact ⟨b.1, by omega⟩⟩
theorem wy_up {ws : D} (en : Int) {r : Rd} (h : rdOK ws r.nx) : rdOK ws (wyC ws en r).2.nx /\ rdOK ws (wyU ws en r).2.nx /\ rdOK ws (wyP ws en r).2.nx := by
  have a := seq_up (wy0_sq en) (.l []) h
  have b := seq_up (wy1_sq en) (.l []) a.1
  exact ⟨a.1, b.1, (seq_up (wy2_sq en) (.l []) b.1).1⟩
def rpY (s : ByteArray) : Rd := wyR (paW s) (s.size : Nat) (mR 0 0 0)
def rpO (s : ByteArray) : Bool := decide ((lexR s).2.2 = 0) && decide ((rpY s).er = 0)
def rpC (s : ByteArray) : D := if rpO s = true then (wyC (paW s) (s.size : Nat) (mR 0 0 0)).1 else .l []
def rpU (s : ByteArray) : D := if rpO s = true then (wyU (paW s) (s.size : Nat) (mR 0 0 0)).1 else .l []
def rpP (s : ByteArray) : D := if rpO s = true then (wyP (paW s) (s.size : Nat) (mR 0 0 0)).1 else .l []
def rpE (s : ByteArray) : Int := if (lexR s).2.2 = 0 then (rpY s).er else (lexR s).2.2
def rpA (s : ByteArray) : Int := if (lexR s).2.2 = 0 then (if (rpY s).er = 0 then 0 else (rpY s).pa) else ((lexR s).2.1 : Nat)
def en9 (s : ByteArray) : Int := (s.size : Nat)
theorem rp_lex {s : ByteArray} (hl : (lexR s).2.2 ≠ 0) : rpC s = .l [] /\ rpU s = .l [] /\ rpP s = .l [] /\ rpA s = ((lexR s).2.1 : Nat) /\ rpE s = (lexR s).2.2 := by
  have e : rpO s = false := by simp only [rpO, decide_eq_false hl, Bool.false_and]
  simp only [rpC, rpU, rpP, rpA, rpE, e, if_neg hl, Bool.false_eq_true, if_false, and_self]
theorem rp_bad {s : ByteArray} {R : Rd} (hl : (lexR s).2.2 = 0) (hY : rpY s = R) (he : R.er ≠ 0) : rpC s = .l [] /\ rpU s = .l [] /\ rpP s = .l [] /\ rpA s = R.pa /\ rpE s = R.er := by
  subst hY
  have e : rpO s = false := by simp only [rpO, decide_eq_false he, Bool.and_false]
  simp only [rpC, rpU, rpP, rpA, rpE, e, if_pos hl, if_neg he, Bool.false_eq_true, if_false, and_self]
theorem rp_good {s : ByteArray} {R : Rd} (hl : (lexR s).2.2 = 0) (hY : rpY s = R) (he : R.er = 0) : rpC s = (wyC (paW s) (s.size : Nat) (mR 0 0 0)).1 /\ rpU s = (wyU (paW s) (s.size : Nat) (mR 0 0 0)).1 /\ rpP s = (wyP (paW s) (s.size : Nat) (mR 0 0 0)).1 /\ rpA s = 0 /\ rpE s = 0 := by
  subst hY
  have e : rpO s = true := by simp only [rpO, decide_eq_true hl, decide_eq_true he, Bool.and_self]
  simp only [rpC, rpU, rpP, rpA, rpE, e, if_pos hl, he, if_true, and_self]
end Go.Proofs.Ytbhbjhejkamlnaa.Sx.Z
namespace Go.Proofs.Ytbhbjhejkamlnaa.Sx.Z
open Go.RowKit
def Bad (ws : D) (r q : Rd) : Prop := r.er ≠ 0 /\ r.nx = ws.len /\ q.er = r.er /\ q.pa = r.pa
structure PR {α : Type} (ws : D) (f g : Rd -> α × Rd) : Prop where
  ok : ∀ r : Rd, rdOK ws r.nx -> r.er = 0 -> (f r = g r /\ (g r).2.er = 0) ∨ Bad ws (f r).2 (g r).2
  fb : ∀ r : Rd, r.er ≠ 0 -> r.nx = ws.len -> (f r).2 = r
  gb : ∀ q : Rd, q.er ≠ 0 -> (g q).2 = q
  up : ∀ r : Rd, rdOK ws r.nx -> rdOK ws (f r).2.nx
theorem PR.pure {α : Type} {ws : D} (v : α) : PR ws (fun r => (v, r)) (fun r => (v, r)) := ⟨fun _ _ h => .inl ⟨rfl, h⟩, fun _ _ _ => rfl, fun _ _ => rfl, fun _ h => h⟩
theorem PR.bind {α β : Type} {ws : D} {f g : Rd -> α × Rd} {f2 g2 : α -> Rd -> β × Rd} (h : PR ws f g) (h2 : ∀ a, PR ws (f2 a) (g2 a)) : PR ws (fun r => f2 (f r).1 (f r).2) (fun r => g2 (g r).1 (g r).2) := by
  refine ⟨fun r hr h0 => ?_, fun r he hn => ?_, fun q he => ?_, fun r hr => (h2 _).up _ (h.up r hr)⟩
  · rcases h.ok r hr h0 with ⟨e1, e2⟩ | ⟨b1, b2, b3, b4⟩
    · have u := h.up r hr
      rw [e1] at u ⊢
      exact (h2 _).ok _ u e2
    · refine .inr ?_
      have a := (h2 (f r).1).fb _ b1 b2
      have b := (h2 (g r).1).gb (g r).2 (by rw [b3]; exact b1)
      rw [a, b]
      exact ⟨b1, b2, b3, b4⟩
  · rw [h.fb r he hn]
    exact (h2 _).fb r he hn
  · rw [h.gb q he]
    exact (h2 _).gb q he
def kwAll : List ByteArray := [miB, opB, clB, eqB, seB, doB, kwS, kwA, kwI, obB, cbB, kwF, kwL, kwW, kwR, kwC, kwU, kwP, kwV, coB, kwO, kwT, kwB, kwD, kwY, ⟨#[61, 61]⟩, ⟨#[33, 61]⟩, ⟨#[60]⟩, ⟨#[60, 61]⟩, ⟨#[62]⟩, ⟨#[62, 61]⟩, ⟨#[43]⟩, ⟨#[42]⟩, ⟨#[47]⟩, ⟨#[37]⟩]
def TW (ws : D) : Prop := ∀ nx t, t ∈ kwAll -> 0 <= nx -> acB ws nx t = true -> 3 <= pkK ws nx
theorem kw_pos {t : ByteArray} (h : t ∈ kwAll) : 0 < t.size := by
  have : ∀ t ∈ kwAll, 0 < t.size := by decide
  exact this t h
theorem is_ac {ws : D} (hT : TW ws) {t : ByteArray} (ht : t ∈ kwAll) {r : Rd} (h : rdOK ws r.nx) (h0 : r.er = 0) : isB ws t r = acB ws r.nx t := by
  have e : isB ws t r = (r.er == 0 && decide (r.nx < (ws.len : Int)) && (pkS ws r.nx).toList == t.toList && decide (pkK ws r.nx ≥ 3)) := rfl
  rw [e, h0]
  cases ha : acB ws r.nx t with
  | true =>
    have h1 := ac_lt (kw_pos ht) ha
    have h2 := hT r.nx t ht h.1 ha
    have h3 : ((pkS ws r.nx).toList == t.toList) = true := ha
    rw [decide_eq_true h1, h3, decide_eq_true (show pkK ws r.nx ≥ 3 from h2)]; rfl
  | false =>
    have h3 : ((pkS ws r.nx).toList == t.toList) = false := ha
    rw [h3, Bool.and_false, Bool.false_and]
theorem is_er {ws : D} {t : ByteArray} {q : Rd} (h : q.er ≠ 0) : isB ws t q = false := by
  cases hq : isB ws t q with
  | false => rfl
  | true => exact absurd (isB_lt hq).1 h
theorem ki_er {ws : D} {k : Int} {q : Rd} (h : q.er ≠ 0) : kiB ws k q = false := by
  cases hq : kiB ws k q with
  | false => rfl
  | true => exact absurd (kiB_lt hq).1 h
theorem ac_end {ws : D} {t : ByteArray} (ht : 0 < t.size) {nx : Int} (h : nx = ws.len) : acB ws nx t = false := by
  cases hq : acB ws nx t with
  | false => rfl
  | true =>
    have := ac_lt ht hq
    omega
theorem pkK_end {ws : D} {nx : Int} (h : nx = ws.len) : pkK ws nx = 0 := if_neg (by omega)
theorem pkS_end {ws : D} {nx : Int} (h : nx = ws.len) : pkS ws nx = ByteArray.empty := if_neg (by omega)
theorem fl_bad {ws : D} {en e : Int} {r : Rd} (he : r.er ≠ 0) (hn : r.nx = ws.len) : fl ws en e r = r := by
  unfold fl
  rw [if_neg he, ← hn]
theorem ff_bad {ws : D} {en e : Int} {q : Rd} (he : q.er ≠ 0) : ffR ws en e q = q := if_neg he
theorem fl_ff {ws : D} {en e : Int} (h : e ≠ 0) {r : Rd} (h0 : r.er = 0) : Bad ws (fl ws en e r) (ffR ws en e r) := by
  unfold fl ffR
  rw [if_pos h0, if_pos h0]
  exact ⟨h, rfl, rfl, rfl⟩
theorem mu_bad {ws : D} {en : Int} {t : ByteArray} {q : Rd} (he : q.er ≠ 0) : muR ws en t q = q := by
  unfold muR
  rw [if_neg (by rw [is_er he]; decide), ff_bad he]
theorem ex_bad {ws : D} {en : Int} {t : ByteArray} (ht : 0 < t.size) {r : Rd} (he : r.er ≠ 0) (hn : r.nx = ws.len) : exR ws en t r = r := by
  rw [exR_no (ac_end ht hn), fl_bad he hn]
theorem wn_bad {ws : D} {en k : Int} {q : Rd} (he : q.er ≠ 0) : wnR ws en k q = q := by
  unfold wnR
  rw [if_neg (by rw [ki_er he]; decide), ff_bad he]
theorem pr_ex {ws : D} (hT : TW ws) (en : Int) {t : ByteArray} (ht : t ∈ kwAll) : PR ws (fun r => ((), exR ws en t r)) (fun r => ((), muR ws en t r)) := by
  refine ⟨fun r hr h0 => ?_, fun r he hn => ex_bad (kw_pos ht) he hn, fun q he => mu_bad he, fun r hr => (ex_up en hr (kw_pos ht)).1⟩
  have e := is_ac hT ht hr h0
  cases ha : acB ws r.nx t with
  | true =>
    left
    have e2 : muR ws en t r = gx r := if_pos (by rw [e, ha])
    simp only [exR_yes ha, e2]
    exact ⟨trivial, h0⟩
  | false =>
    right
    have e2 : muR ws en t r = ffR ws en 5 r := if_neg (by rw [e, ha]; decide)
    simp only [exR_no ha, e2]
    exact fl_ff (by decide) h0
theorem ki_ok {ws : D} {k : Int} (hk : k ≠ 0) {r : Rd} (h0 : r.er = 0) : kiB ws k r = decide (pkK ws r.nx = k) := by
  have e : kiB ws k r = (r.er == 0 && decide (r.nx < (ws.len : Int)) && pkK ws r.nx == k) := rfl
  rw [e, h0]
  by_cases h : pkK ws r.nx = k
  · rw [decide_eq_true h, decide_eq_true (pk_lt (by rw [h]; exact hk)), h]; simp
  · rw [decide_eq_false h, beq_false_of_ne h, Bool.and_false]
theorem pr_nm {ws : D} (en : Int) : PR ws (fun r => (nmS ws r, nmR ws en r)) (fun r => (wnS ws r, wnR ws en 1 r)) := by
  refine ⟨fun r hr h0 => ?_, fun r he hn => ?_, fun q he => wn_bad he, fun r hr => (nm_up en hr).1⟩
  · have e := ki_ok (ws := ws) (k := 1) (by decide) h0
    by_cases hk : pkK ws r.nx = 1
    · left
      have hb : kiB ws 1 r = true := by rw [e, decide_eq_true hk]
      simp only [nmS, nmR, wnS, wnR, if_pos hk, if_pos hb]
      exact ⟨trivial, h0⟩
    · right
      have hb : ¬ kiB ws 1 r = true := by rw [e, decide_eq_false hk]; decide
      simp only [nmR, wnR, if_neg hk, if_neg hb]
      exact fl_ff (by decide) h0
  · have hk : ¬ pkK ws r.nx = 1 := by rw [pkK_end hn]; decide
    simp only [nmR, if_neg hk]
    exact fl_bad he hn
theorem pr_nu {ws : D} (en : Int) : PR ws (fun r => (nuN ws r, nuR ws en r)) (fun r => (wnN ws r, wnR ws en 2 r)) := by
  refine ⟨fun r hr h0 => ?_, fun r he hn => ?_, fun q he => wn_bad he, fun r hr => (nu_up en hr).1⟩
  · have e := ki_ok (ws := ws) (k := 2) (by decide) h0
    by_cases hk : pkK ws r.nx = 2
    · left
      have hb : kiB ws 2 r = true := by rw [e, decide_eq_true hk]
      simp only [nuN, nuR, wnN, wnR, if_pos hk, if_pos hb]
      exact ⟨trivial, h0⟩
    · right
      have hb : ¬ kiB ws 2 r = true := by rw [e, decide_eq_false hk]; decide
      simp only [nuR, wnR, if_neg hk, if_neg hb]
      exact fl_ff (by decide) h0
  · have hk : ¬ pkK ws r.nx = 2 := by rw [pkK_end hn]; decide
    simp only [nuR, if_neg hk]
    exact fl_bad he hn
theorem PR.kw {β : Type} {ws : D} (hT : TW ws) (en : Int) {t : ByteArray} (ht : t ∈ kwAll) {A B A' B' : Rd -> β × Rd} (hA : PR ws A A') (hB : PR ws B B') : PR ws (fun r => if acB ws r.nx t = true then A (exR ws en t r) else B r) (fun r => if isB ws t r = true then A' (gx r) else B' r) := by
  refine ⟨fun r hr h0 => ?_, fun r he hn => ?_, fun q he => ?_, fun r hr => ?_⟩
  · simp only [is_ac hT ht hr h0]
    cases ha : acB ws r.nx t with
    | true =>
      simp only [if_true, exR_yes ha]
      exact hA.ok (gx r) (gx_up hr (ac_lt (kw_pos ht) ha)).1 h0
    | false =>
      simp only [Bool.false_eq_true, if_false]
      exact hB.ok r hr h0
  · simp only [ac_end (kw_pos ht) hn, Bool.false_eq_true, if_false]
    exact hB.fb r he hn
  · simp only [is_er he, Bool.false_eq_true, if_false]
    exact hB.gb q he
  · split
    · exact hA.up _ (ex_up en hr (kw_pos ht)).1
    · exact hB.up r hr
theorem PR.kw2 {β : Type} {ws : D} (hT : TW ws) {t : ByteArray} (ht : t ∈ kwAll) {A B A' B' : Rd -> β × Rd} (hA : PR ws A A') (hB : PR ws B B') : PR ws (fun r => if acB ws r.nx t = true then A (acR ws t r) else B (acR ws t r)) (fun r => if isB ws t r = true then A' (gx r) else B' r) := by
  refine ⟨fun r hr h0 => ?_, fun r he hn => ?_, fun q he => ?_, fun r hr => ?_⟩
  · simp only [is_ac hT ht hr h0]
    cases ha : acB ws r.nx t with
    | true =>
      simp only [if_true, acR_yes ha]
      exact hA.ok (gx r) (gx_up hr (ac_lt (kw_pos ht) ha)).1 h0
    | false =>
      simp only [Bool.false_eq_true, if_false, acR_no ha]
      exact hB.ok r hr h0
  · simp only [ac_end (kw_pos ht) hn, Bool.false_eq_true, if_false, acR_no (ac_end (kw_pos ht) hn)]
    exact hB.fb r he hn
  · simp only [is_er he, Bool.false_eq_true, if_false]
    exact hB.gb q he
  · split
    · exact hA.up _ (ac_up hr (kw_pos ht)).1
    · exact hB.up _ (ac_up hr (kw_pos ht)).1
theorem PR.pick {β : Type} {ws : D} {en : Int} {kv kx : Rd -> Int} {kr : Rd -> Rd} {c : Rd -> Bool} {v : Rd -> β} {f2 g2 : Int -> Rd -> β × Rd} (h1 : ∀ r : Rd, rdOK ws r.nx -> r.er = 0 -> c r = false -> kv r = kx r /\ kr r = gx r) (h2 : ∀ r : Rd, rdOK ws r.nx -> r.er = 0 -> c r = true -> kr r = fl ws en 5 r) (h3 : ∀ r : Rd, r.er ≠ 0 -> r.nx = ws.len -> kr r = r) (h4 : ∀ q : Rd, q.er ≠ 0 -> c q = true) (hu : ∀ r : Rd, rdOK ws r.nx -> rdOK ws (kr r).nx) (hp : ∀ a, PR ws (f2 a) (g2 a)) : PR ws (fun r => f2 (kv r) (kr r)) (fun q => if c q = true then (v q, ffR ws en 5 q) else g2 (kx q) (gx q)) := by
  refine ⟨fun r hr h0 => ?_, fun r he hn => ?_, fun q he => ?_, fun r hr => (hp _).up _ (hu r hr)⟩
  · cases hc : c r with
    | true =>
      right
      have b := fl_ff (ws := ws) (en := en) (e := 5) (by decide) h0
      simp only [if_true, h2 r hr h0 hc, (hp (kv r)).fb _ b.1 b.2.1]
      exact b
    | false =>
      simp only [Bool.false_eq_true, if_false]
      have u := hu r hr
      obtain ⟨a, b⟩ := h1 r hr h0 hc
      rw [b] at u
      rw [a, b]
      exact (hp _).ok _ u h0
  · simp only [h3 r he hn]
    exact (hp _).fb r he hn
  · simp only [h4 q he, if_true]
    exact ff_bad he
end Go.Proofs.Ytbhbjhejkamlnaa.Sx.Z
namespace Go.Proofs.Ytbhbjhejkamlnaa.Sx.Z
open Go.RowKit
theorem sk_kq {ws : D} (hT : TW ws) {r : Rd} (h : rdOK ws r.nx) (h0 : r.er = 0) : skK (pkS ws r.nx) = kQ ws sgA 4 r := by
  have e0 : isB ws ⟨#[43]⟩ r = ((pkS ws r.nx).toList == (⟨#[43]⟩ : ByteArray).toList) := is_ac hT (by simp [kwAll]) h h0
  have e1 : isB ws ⟨#[45]⟩ r = ((pkS ws r.nx).toList == (⟨#[45]⟩ : ByteArray).toList) := is_ac hT (by simp [kwAll, miB]) h h0
  have hx : ixR ws sgA r 2 = if isB ws ⟨#[45]⟩ r = true then ((1 : Nat) : Int) else if isB ws ⟨#[43]⟩ r = true then ((0 : Nat) : Int) else -1 := rfl
  rw [e1, e0] at hx
  have hl : sgA.len = 2 := rfl
  unfold skK kQ
  simp only [h0, true_and, hl]
  by_cases k0 : ((pkS ws r.nx).toList == (⟨#[43]⟩ : ByteArray).toList) = true
  · have o1 : ((pkS ws r.nx).toList == (⟨#[45]⟩ : ByteArray).toList) = false := (by rw [eq_of_beq k0]; decide +kernel)
    rw [k0, o1] at hx
    simp only [Bool.false_eq_true, if_false, if_true] at hx
    rw [k0, o1, hx]
    simp
  by_cases k1 : ((pkS ws r.nx).toList == (⟨#[45]⟩ : ByteArray).toList) = true
  · have o0 : ((pkS ws r.nx).toList == (⟨#[43]⟩ : ByteArray).toList) = false := (by rw [eq_of_beq k1]; decide +kernel)
    rw [k1, o0] at hx
    simp only [Bool.false_eq_true, if_false, if_true] at hx
    rw [k1, o0, hx]
    simp
  rw [(Bool.eq_false_iff.2 k0), (Bool.eq_false_iff.2 k1)] at hx
  simp only [Bool.false_eq_true, if_false] at hx
  rw [(Bool.eq_false_iff.2 k0), (Bool.eq_false_iff.2 k1), hx]
  simp
theorem pd_kq {ws : D} (hT : TW ws) {r : Rd} (h : rdOK ws r.nx) (h0 : r.er = 0) : pdK (pkS ws r.nx) = kQ ws sgM 6 r := by
  have e0 : isB ws ⟨#[42]⟩ r = ((pkS ws r.nx).toList == (⟨#[42]⟩ : ByteArray).toList) := is_ac hT (by simp [kwAll]) h h0
  have e1 : isB ws ⟨#[47]⟩ r = ((pkS ws r.nx).toList == (⟨#[47]⟩ : ByteArray).toList) := is_ac hT (by simp [kwAll]) h h0
  have e2 : isB ws ⟨#[37]⟩ r = ((pkS ws r.nx).toList == (⟨#[37]⟩ : ByteArray).toList) := is_ac hT (by simp [kwAll]) h h0
  have hx : ixR ws sgM r 3 = if isB ws ⟨#[37]⟩ r = true then ((2 : Nat) : Int) else if isB ws ⟨#[47]⟩ r = true then ((1 : Nat) : Int) else if isB ws ⟨#[42]⟩ r = true then ((0 : Nat) : Int) else -1 := rfl
  rw [e2, e1, e0] at hx
  have hl : sgM.len = 3 := rfl
  unfold pdK kQ
  simp only [h0, true_and, hl]
  by_cases k0 : ((pkS ws r.nx).toList == (⟨#[42]⟩ : ByteArray).toList) = true
  · have o1 : ((pkS ws r.nx).toList == (⟨#[47]⟩ : ByteArray).toList) = false := (by rw [eq_of_beq k0]; decide +kernel)
    have o2 : ((pkS ws r.nx).toList == (⟨#[37]⟩ : ByteArray).toList) = false := (by rw [eq_of_beq k0]; decide +kernel)
    rw [k0, o1, o2] at hx
    simp only [Bool.false_eq_true, if_false, if_true] at hx
    rw [k0, o1, o2, hx]
    simp
  by_cases k1 : ((pkS ws r.nx).toList == (⟨#[47]⟩ : ByteArray).toList) = true
  · have o0 : ((pkS ws r.nx).toList == (⟨#[42]⟩ : ByteArray).toList) = false := (by rw [eq_of_beq k1]; decide +kernel)
    have o2 : ((pkS ws r.nx).toList == (⟨#[37]⟩ : ByteArray).toList) = false := (by rw [eq_of_beq k1]; decide +kernel)
    rw [k1, o0, o2] at hx
    simp only [Bool.false_eq_true, if_false, if_true] at hx
    rw [k1, o0, o2, hx]
    simp
  by_cases k2 : ((pkS ws r.nx).toList == (⟨#[37]⟩ : ByteArray).toList) = true
  · have o0 : ((pkS ws r.nx).toList == (⟨#[42]⟩ : ByteArray).toList) = false := (by rw [eq_of_beq k2]; decide +kernel)
    have o1 : ((pkS ws r.nx).toList == (⟨#[47]⟩ : ByteArray).toList) = false := (by rw [eq_of_beq k2]; decide +kernel)
    rw [k2, o0, o1] at hx
    simp only [Bool.false_eq_true, if_false, if_true] at hx
    rw [k2, o0, o1, hx]
    simp
  rw [(Bool.eq_false_iff.2 k0), (Bool.eq_false_iff.2 k1), (Bool.eq_false_iff.2 k2)] at hx
  simp only [Bool.false_eq_true, if_false] at hx
  rw [(Bool.eq_false_iff.2 k0), (Bool.eq_false_iff.2 k1), (Bool.eq_false_iff.2 k2), hx]
  simp
theorem co_kq {ws : D} (hT : TW ws) {r : Rd} (h : rdOK ws r.nx) (h0 : r.er = 0) : coK (pkS ws r.nx) = ixR ws sgC r 6 + 1 := by
  have e0 : isB ws ⟨#[61, 61]⟩ r = ((pkS ws r.nx).toList == (⟨#[61, 61]⟩ : ByteArray).toList) := is_ac hT (by simp [kwAll]) h h0
  have e1 : isB ws ⟨#[33, 61]⟩ r = ((pkS ws r.nx).toList == (⟨#[33, 61]⟩ : ByteArray).toList) := is_ac hT (by simp [kwAll]) h h0
  have e2 : isB ws ⟨#[60]⟩ r = ((pkS ws r.nx).toList == (⟨#[60]⟩ : ByteArray).toList) := is_ac hT (by simp [kwAll]) h h0
  have e3 : isB ws ⟨#[60, 61]⟩ r = ((pkS ws r.nx).toList == (⟨#[60, 61]⟩ : ByteArray).toList) := is_ac hT (by simp [kwAll]) h h0
  have e4 : isB ws ⟨#[62]⟩ r = ((pkS ws r.nx).toList == (⟨#[62]⟩ : ByteArray).toList) := is_ac hT (by simp [kwAll]) h h0
  have e5 : isB ws ⟨#[62, 61]⟩ r = ((pkS ws r.nx).toList == (⟨#[62, 61]⟩ : ByteArray).toList) := is_ac hT (by simp [kwAll]) h h0
  have hx : ixR ws sgC r 6 = if isB ws ⟨#[62, 61]⟩ r = true then ((5 : Nat) : Int) else if isB ws ⟨#[62]⟩ r = true then ((4 : Nat) : Int) else if isB ws ⟨#[60, 61]⟩ r = true then ((3 : Nat) : Int) else if isB ws ⟨#[60]⟩ r = true then ((2 : Nat) : Int) else if isB ws ⟨#[33, 61]⟩ r = true then ((1 : Nat) : Int) else if isB ws ⟨#[61, 61]⟩ r = true then ((0 : Nat) : Int) else -1 := rfl
  rw [e5, e4, e3, e2, e1, e0] at hx
  unfold coK
  by_cases k0 : ((pkS ws r.nx).toList == (⟨#[61, 61]⟩ : ByteArray).toList) = true
  · have o1 : ((pkS ws r.nx).toList == (⟨#[33, 61]⟩ : ByteArray).toList) = false := (by rw [eq_of_beq k0]; decide +kernel)
    have o2 : ((pkS ws r.nx).toList == (⟨#[60]⟩ : ByteArray).toList) = false := (by rw [eq_of_beq k0]; decide +kernel)
    have o3 : ((pkS ws r.nx).toList == (⟨#[60, 61]⟩ : ByteArray).toList) = false := (by rw [eq_of_beq k0]; decide +kernel)
    have o4 : ((pkS ws r.nx).toList == (⟨#[62]⟩ : ByteArray).toList) = false := (by rw [eq_of_beq k0]; decide +kernel)
    have o5 : ((pkS ws r.nx).toList == (⟨#[62, 61]⟩ : ByteArray).toList) = false := (by rw [eq_of_beq k0]; decide +kernel)
    rw [k0, o1, o2, o3, o4, o5] at hx
    simp only [Bool.false_eq_true, if_false, if_true] at hx
    rw [k0, o1, o2, o3, o4, o5, hx]
    simp
  by_cases k1 : ((pkS ws r.nx).toList == (⟨#[33, 61]⟩ : ByteArray).toList) = true
  · have o0 : ((pkS ws r.nx).toList == (⟨#[61, 61]⟩ : ByteArray).toList) = false := (by rw [eq_of_beq k1]; decide +kernel)
    have o2 : ((pkS ws r.nx).toList == (⟨#[60]⟩ : ByteArray).toList) = false := (by rw [eq_of_beq k1]; decide +kernel)
    have o3 : ((pkS ws r.nx).toList == (⟨#[60, 61]⟩ : ByteArray).toList) = false := (by rw [eq_of_beq k1]; decide +kernel)
    have o4 : ((pkS ws r.nx).toList == (⟨#[62]⟩ : ByteArray).toList) = false := (by rw [eq_of_beq k1]; decide +kernel)
    have o5 : ((pkS ws r.nx).toList == (⟨#[62, 61]⟩ : ByteArray).toList) = false := (by rw [eq_of_beq k1]; decide +kernel)
    rw [k1, o0, o2, o3, o4, o5] at hx
    simp only [Bool.false_eq_true, if_false, if_true] at hx
    rw [k1, o0, o2, o3, o4, o5, hx]
    simp
  by_cases k2 : ((pkS ws r.nx).toList == (⟨#[60]⟩ : ByteArray).toList) = true
  · have o0 : ((pkS ws r.nx).toList == (⟨#[61, 61]⟩ : ByteArray).toList) = false := (by rw [eq_of_beq k2]; decide +kernel)
    have o1 : ((pkS ws r.nx).toList == (⟨#[33, 61]⟩ : ByteArray).toList) = false := (by rw [eq_of_beq k2]; decide +kernel)
    have o3 : ((pkS ws r.nx).toList == (⟨#[60, 61]⟩ : ByteArray).toList) = false := (by rw [eq_of_beq k2]; decide +kernel)
    have o4 : ((pkS ws r.nx).toList == (⟨#[62]⟩ : ByteArray).toList) = false := (by rw [eq_of_beq k2]; decide +kernel)
    have o5 : ((pkS ws r.nx).toList == (⟨#[62, 61]⟩ : ByteArray).toList) = false := (by rw [eq_of_beq k2]; decide +kernel)
    rw [k2, o0, o1, o3, o4, o5] at hx
    simp only [Bool.false_eq_true, if_false, if_true] at hx
    rw [k2, o0, o1, o3, o4, o5, hx]
    simp
  by_cases k3 : ((pkS ws r.nx).toList == (⟨#[60, 61]⟩ : ByteArray).toList) = true
  · have o0 : ((pkS ws r.nx).toList == (⟨#[61, 61]⟩ : ByteArray).toList) = false := (by rw [eq_of_beq k3]; decide +kernel)
    have o1 : ((pkS ws r.nx).toList == (⟨#[33, 61]⟩ : ByteArray).toList) = false := (by rw [eq_of_beq k3]; decide +kernel)
    have o2 : ((pkS ws r.nx).toList == (⟨#[60]⟩ : ByteArray).toList) = false := (by rw [eq_of_beq k3]; decide +kernel)
    have o4 : ((pkS ws r.nx).toList == (⟨#[62]⟩ : ByteArray).toList) = false := (by rw [eq_of_beq k3]; decide +kernel)
    have o5 : ((pkS ws r.nx).toList == (⟨#[62, 61]⟩ : ByteArray).toList) = false := (by rw [eq_of_beq k3]; decide +kernel)
    rw [k3, o0, o1, o2, o4, o5] at hx
    simp only [Bool.false_eq_true, if_false, if_true] at hx
    rw [k3, o0, o1, o2, o4, o5, hx]
    simp
  by_cases k4 : ((pkS ws r.nx).toList == (⟨#[62]⟩ : ByteArray).toList) = true
  · have o0 : ((pkS ws r.nx).toList == (⟨#[61, 61]⟩ : ByteArray).toList) = false := (by rw [eq_of_beq k4]; decide +kernel)
    have o1 : ((pkS ws r.nx).toList == (⟨#[33, 61]⟩ : ByteArray).toList) = false := (by rw [eq_of_beq k4]; decide +kernel)
    have o2 : ((pkS ws r.nx).toList == (⟨#[60]⟩ : ByteArray).toList) = false := (by rw [eq_of_beq k4]; decide +kernel)
    have o3 : ((pkS ws r.nx).toList == (⟨#[60, 61]⟩ : ByteArray).toList) = false := (by rw [eq_of_beq k4]; decide +kernel)
    have o5 : ((pkS ws r.nx).toList == (⟨#[62, 61]⟩ : ByteArray).toList) = false := (by rw [eq_of_beq k4]; decide +kernel)
    rw [k4, o0, o1, o2, o3, o5] at hx
    simp only [Bool.false_eq_true, if_false, if_true] at hx
    rw [k4, o0, o1, o2, o3, o5, hx]
    simp
  by_cases k5 : ((pkS ws r.nx).toList == (⟨#[62, 61]⟩ : ByteArray).toList) = true
  · have o0 : ((pkS ws r.nx).toList == (⟨#[61, 61]⟩ : ByteArray).toList) = false := (by rw [eq_of_beq k5]; decide +kernel)
    have o1 : ((pkS ws r.nx).toList == (⟨#[33, 61]⟩ : ByteArray).toList) = false := (by rw [eq_of_beq k5]; decide +kernel)
    have o2 : ((pkS ws r.nx).toList == (⟨#[60]⟩ : ByteArray).toList) = false := (by rw [eq_of_beq k5]; decide +kernel)
    have o3 : ((pkS ws r.nx).toList == (⟨#[60, 61]⟩ : ByteArray).toList) = false := (by rw [eq_of_beq k5]; decide +kernel)
    have o4 : ((pkS ws r.nx).toList == (⟨#[62]⟩ : ByteArray).toList) = false := (by rw [eq_of_beq k5]; decide +kernel)
    rw [k5, o0, o1, o2, o3, o4] at hx
    simp only [Bool.false_eq_true, if_false, if_true] at hx
    rw [k5, o0, o1, o2, o3, o4, hx]
    simp
  rw [(Bool.eq_false_iff.2 k0), (Bool.eq_false_iff.2 k1), (Bool.eq_false_iff.2 k2), (Bool.eq_false_iff.2 k3), (Bool.eq_false_iff.2 k4), (Bool.eq_false_iff.2 k5)] at hx
  simp only [Bool.false_eq_true, if_false] at hx
  rw [(Bool.eq_false_iff.2 k0), (Bool.eq_false_iff.2 k1), (Bool.eq_false_iff.2 k2), (Bool.eq_false_iff.2 k3), (Bool.eq_false_iff.2 k4), (Bool.eq_false_iff.2 k5), hx]
  simp
theorem chL_pr {ws : D} {P P' : Rd -> Xp × Rd} {K : ByteArray -> Int} {K' : Rd -> Int} (hp : PR ws P P') (hP : PaOK ws P) (hP' : PaOK ws P') (he : K ByteArray.empty = 0) (hK' : KOK ws K') (hk : ∀ r : Rd, rdOK ws r.nx -> r.er = 0 -> K (pkS ws r.nx) = K' r) (hk2 : ∀ q : Rd, q.er ≠ 0 -> K' q = 0) : ∀ (n : Nat) (r : Rd) (x : Xp), rdOK ws r.nx -> r.er = 0 -> left ws r <= n -> (chL P K ws (left ws r) x r = cQL P' K' (left ws r) x r /\ (cQL P' K' (left ws r) x r).2.er = 0) ∨ Bad ws (chL P K ws (left ws r) x r).2 (cQL P' K' (left ws r) x r).2 := by
  intro n
  induction n using Nat.strongRecOn with
  | ind n ih =>
    intro r x h h0 hl
    have e := hk r h h0
    by_cases hz : K (pkS ws r.nx) = 0
    · left
      rw [chL_end hz, cQL_end (by rw [← e, hz])]
      exact ⟨rfl, h0⟩
    · have hz' : K' r ≠ 0 := by rw [← e]; exact hz
      have hlt := pk_of he hz
      obtain ⟨g1, g2⟩ := gx_ok h hlt
      rw [← chL_step hP he x h hz, ← cQL_step hP' hK' x h hz', ← e]
      obtain ⟨u1, u2, _⟩ := hP.up (gx r) g1
      have u3 := left_le (ws := ws) u1
      rcases hp.ok (gx r) g1 h0 with ⟨e1, e2⟩ | ⟨b1, b2, b3, b4⟩
      · rw [e1] at u2 u3 ⊢
        exact ih (left ws (P' (gx r)).2) (by omega) _ _ u2 e2 (Nat.le_refl _)
      · right
        have k1 : K (pkS ws (P (gx r)).2.nx) = 0 := by rw [pkS_end b2, he]
        have k2 : K' (P' (gx r)).2 = 0 := hk2 _ (by rw [b3]; exact b1)
        rw [chL_end k1, cQL_end k2]
        exact ⟨b1, b2, b3, b4⟩
theorem chA_pr {ws : D} {P P' : Rd -> Xp × Rd} {K : ByteArray -> Int} {K' : Rd -> Int} (hp : PR ws P P') (hP : PaOK ws P) (hP' : PaOK ws P') (he : K ByteArray.empty = 0) (hK' : KOK ws K') (hk : ∀ r : Rd, rdOK ws r.nx -> r.er = 0 -> K (pkS ws r.nx) = K' r) (hk2 : ∀ q : Rd, q.er ≠ 0 -> K' q = 0) : PR ws (chA P K ws) (cQA P' K' ws) := by
  refine ⟨fun r h h0 => ?_, fun r hr hn => ?_, fun q hq => ?_, fun r h => ((chA_up hP he).up r h).2.1⟩
  · unfold chA cQA
    have u := hp.up r h
    rcases hp.ok r h h0 with ⟨e1, e2⟩ | ⟨b1, b2, b3, b4⟩
    · rw [e1] at u ⊢
      exact chL_pr hp hP hP' he hK' hk hk2 _ _ _ u e2 (Nat.le_refl _)
    · right
      have k1 : K (pkS ws (P r).2.nx) = 0 := by rw [pkS_end b2, he]
      have k2 : K' (P' r).2 = 0 := hk2 _ (by rw [b3]; exact b1)
      rw [chL_end k1, cQL_end k2]
      exact ⟨b1, b2, b3, b4⟩
  · unfold chA
    have e := hp.fb r hr hn
    rw [chL_end (by rw [e, pkS_end hn, he])]
    exact e
  · unfold cQA
    have e := hp.gb q hq
    rw [cQL_end (hk2 _ (by rw [e]; exact hq))]
    exact e
theorem kQ_er {ws sg : D} {fi : Int} {q : Rd} (h : q.er ≠ 0) : kQ ws sg fi q = 0 := if_neg fun hx => h hx.1
theorem prF_pr {P P' : PF} {en : Int} {ws : D} {dp : Int} (hT : TW ws) (hp : PR ws (P en ws dp) (P' en ws dp)) (hP : PaOK ws (P en ws dp)) (hP' : PaOK ws (P' en ws dp)) : PR ws (prF P en ws dp) (wpr P' en ws dp) :=
  chA_pr hp hP hP' pd_e kQ_ok (fun _ h h0 => pd_kq hT h h0) (fun _ h => kQ_er h)
theorem smF_pr {P P' : PF} {en : Int} {ws : D} {dp : Int} (hT : TW ws) (hp : PR ws (P en ws dp) (P' en ws dp)) (hP : PaOK ws (P en ws dp)) (hP' : PaOK ws (P' en ws dp)) : PR ws (smF P en ws dp) (wsm P' en ws dp) :=
  chA_pr (prF_pr hT hp hP hP') (chA_up hP pd_e) (cQA_up hP' kQ_ok) sk_e kQ_ok (fun _ h h0 => sk_kq hT h h0) (fun _ h => kQ_er h)
theorem pr_fac {P P' : PF} {en : Int} {ws : D} (hT : TW ws) (hp : ∀ dp, PR ws (P en ws dp) (P' en ws dp)) (hP : ∀ en ws dp, PaOK ws (P en ws dp)) (hP' : ∀ en ws dp, PaOK ws (P' en ws dp)) (dp : Int) : PR ws (fcB P en ws dp) (rfB P' en ws dp) := by
  have hm : miB ∈ kwAll := by simp [kwAll]
  have ho : opB ∈ kwAll := by simp [kwAll]
  have hc : clB ∈ kwAll := by simp [kwAll]
  have hs := fun dp => smF_pr hT (hp dp) (hP en ws dp) (hP' en ws dp)
  refine ⟨fun r h h0 => ?_, fun r hr hn => ?_, fun q hq => ?_, fun r h => ((fcB_up hP en ws dp).up r h).2.1⟩
  · unfold fcB rfB
    rw [is_ac hT hm h h0, is_ac hT ho h h0]
    by_cases k2 : pkK ws r.nx = 2
    · have n1 : ¬ (acB ws r.nx miB = true ∨ acB ws r.nx opB = true) := by
        intro hx
        rcases hx with hx | hx
        · have := hT r.nx _ hm h.1 hx; omega
        · have := hT r.nx _ ho h.1 hx; omega
      have hb : kiB ws 2 r = true := by rw [ki_ok (by decide) h0, decide_eq_true k2]
      rw [if_pos k2, if_neg n1, if_pos hb]
      rcases (pr_nu en).ok r h h0 with ⟨e1, e2⟩ | b
      · left
        have e1 : (nuN ws r, nuR ws en r) = (wnN ws r, wnR ws en 2 r) := e1
        obtain ⟨a, b⟩ := Prod.mk.inj e1
        rw [a, b]
        exact ⟨rfl, e2⟩
      · exact .inr b
    · rw [if_neg k2]
      by_cases a1 : acB ws r.nx miB = true
      · rw [if_pos a1, if_pos (.inl a1), if_pos a1]
        by_cases hd : 24 <= dp
        · right
          rw [if_pos hd]
          have en1 : neR ws en miB dp r = fl ws en 6 r := if_pos ⟨a1, hd⟩
          have b := fl_ff (ws := ws) (en := en) (e := 6) (by decide) h0
          simp only [en1, (hp (dp + 1)).fb _ b.1 b.2.1]
          exact b
        · rw [if_neg hd]
          have en1 : neR ws en miB dp r = gx r := (if_neg (fun hx => hd hx.2)).trans (exR_yes a1)
          rw [en1]
          rcases (hp (dp + 1)).ok (gx r) (gx_up h (ac_lt (by decide) a1)).1 h0 with ⟨e1, e2⟩ | b
          · left
            rw [e1]
            exact ⟨rfl, e2⟩
          · exact .inr b
      · rw [if_neg a1]
        by_cases a2 : acB ws r.nx opB = true
        · rw [if_pos a2, if_pos (.inr a2), if_neg a1]
          by_cases hd : 24 <= dp
          · right
            rw [if_pos hd]
            have en1 : neR ws en opB dp r = fl ws en 6 r := if_pos ⟨a2, hd⟩
            have b := fl_ff (ws := ws) (en := en) (e := 6) (by decide) h0
            simp only [en1, (hs (dp + 1)).fb _ b.1 b.2.1, ex_bad (kw_pos hc) b.1 b.2.1]
            exact b
          · rw [if_neg hd]
            have en1 : neR ws en opB dp r = gx r := (if_neg (fun hx => hd hx.2)).trans (exR_yes a2)
            rw [en1]
            exact (PR.bind (hs (dp + 1)) (f2 := fun e r => (e, exR ws en clB r)) (g2 := fun e r => (e, muR ws en clB r)) (fun e => PR.bind (pr_ex hT en hc) (f2 := fun _ r => (e, r)) (g2 := fun _ r => (e, r)) (fun _ => PR.pure e))).ok (gx r) (gx_up h (ac_lt (by decide) a2)).1 h0
        · have n1 : ¬ (acB ws r.nx miB = true ∨ acB ws r.nx opB = true) := fun hx => hx.elim a1 a2
          have hb : ¬ kiB ws 2 r = true := by rw [ki_ok (by decide) h0, decide_eq_false k2]; decide
          rw [if_neg a2, if_neg n1, if_neg hb]
          exact (PR.bind (pr_nm en) (f2 := fun n r => (Xp.mk 2 0 n (.l []), r)) (g2 := fun n r => (Xp.mk 2 0 n (.l []), r)) (fun n => PR.pure _)).ok r h h0
  · unfold fcB
    rw [if_neg (by rw [pkK_end hn]; decide), if_neg (by rw [ac_end (kw_pos hm) hn]; decide), if_neg (by rw [ac_end (kw_pos ho) hn]; decide)]
    exact (pr_nm en).fb r hr hn
  · unfold rfB
    rw [if_neg (by rw [is_er hq, is_er hq]; decide), if_neg (by rw [ki_er hq]; decide)]
    exact wn_bad hq
theorem fcR_pr {en : Int} {ws : D} (hT : TW ws) : ∀ (m : Nat) (dp : Int), PR ws (fcR m en ws dp) (wfR m en ws dp)
  | 0, _ => ⟨fun _ _ h => .inl ⟨rfl, h⟩, fun _ _ _ => rfl, fun _ _ => rfl, fun _ h => h⟩
  | m + 1, dp => pr_fac hT (fcR_pr hT m) (fcR_up m) (wfR_up m) dp
theorem smX_pr {ws : D} (hT : TW ws) (en dp : Int) : PR ws (smX en ws dp) (wsX en ws dp) := by
  unfold smX wsX
  exact smF_pr hT (fcR_pr hT 1000001 dp) (fcR_up 1000001 en ws dp) (wfR_up 1000001 en ws dp)
theorem cm_fb {ws : D} {en : Int} {r : Rd} (he : r.er ≠ 0) (hn : r.nx = ws.len) : cmR ws en r = r := by
  unfold cmR
  rw [if_pos (by rw [pkS_end hn, co_e]), fl_bad he hn]
theorem ix_er {ws sg : D} {q : Rd} (h : q.er ≠ 0) : ∀ n, ixR ws sg q n = -1
  | 0 => rfl
  | n + 1 => by
    unfold ixR
    rw [if_neg (by rw [is_er h]; decide), ix_er h n]
theorem pr_cond {ws : D} (hT : TW ws) (en : Int) : PR ws (fun r => (cdC ws en r, cdR ws en r)) (fun r => (wcC ws en r, wcR ws en r)) := by
  have ho : opB ∈ kwAll := by simp [kwAll]
  have hc : clB ∈ kwAll := by simp [kwAll]
  have h2 : ∀ (l : Xp) (a : Int), PR ws (fun r => ((⟨a, l, (smX en ws 0 r).1⟩ : Cd), exR ws en clB (smX en ws 0 r).2)) (fun r => ((⟨a, l, (wsX en ws 0 r).1⟩ : Cd), muR ws en clB (wsX en ws 0 r).2)) := fun l a =>
    PR.bind (smX_pr hT en 0) (f2 := fun e r => ((⟨a, l, e⟩ : Cd), exR ws en clB r)) (g2 := fun e r => ((⟨a, l, e⟩ : Cd), muR ws en clB r)) (fun e => PR.bind (pr_ex hT en hc) (f2 := fun _ r => ((⟨a, l, e⟩ : Cd), r)) (g2 := fun _ r => ((⟨a, l, e⟩ : Cd), r)) (fun _ => PR.pure _))
  have h1 : ∀ l : Xp, PR ws (fun r => ((⟨coK (pkS ws r.nx), l, (smX en ws 0 (cmR ws en r)).1⟩ : Cd), exR ws en clB (smX en ws 0 (cmR ws en r)).2)) (fun q => if decide (ixR ws sgC q 6 + 1 = 0) = true then ((⟨0, l, X00⟩ : Cd), ffR ws en 5 q) else ((⟨ixR ws sgC q 6 + 1, l, (wsX en ws 0 (gx q)).1⟩ : Cd), muR ws en clB (wsX en ws 0 (gx q)).2)) := fun l =>
    PR.pick (kv := fun r => coK (pkS ws r.nx)) (kr := fun r => cmR ws en r) (kx := fun q => ixR ws sgC q 6 + 1) (c := fun q => decide (ixR ws sgC q 6 + 1 = 0)) (v := fun _ => ⟨0, l, X00⟩)
      (fun r h h0 hz => ⟨co_kq hT h h0, if_neg (by rw [co_kq hT h h0]; exact of_decide_eq_false hz)⟩)
      (fun r h h0 hz => if_pos (by rw [co_kq hT h h0]; exact of_decide_eq_true hz))
      (fun r he hn => cm_fb he hn) (fun q hq => by rw [ix_er hq]; rfl) (fun r h => (cm_up en h).1) (h2 l)
  have key := PR.bind (pr_ex hT en ho) (fun _ => PR.bind (smX_pr hT en 0) h1)
  have e1 : ∀ r, (wcC ws en r, wcR ws en r) = (if decide (ixR ws sgC (wsX en ws 0 (muR ws en opB r)).2 6 + 1 = 0) = true then ((⟨0, (wsX en ws 0 (muR ws en opB r)).1, X00⟩ : Cd), ffR ws en 5 (wsX en ws 0 (muR ws en opB r)).2) else ((⟨ixR ws sgC (wsX en ws 0 (muR ws en opB r)).2 6 + 1, (wsX en ws 0 (muR ws en opB r)).1, (wsX en ws 0 (gx (wsX en ws 0 (muR ws en opB r)).2)).1⟩ : Cd), muR ws en clB (wsX en ws 0 (gx (wsX en ws 0 (muR ws en opB r)).2)).2)) := by
    intro r
    unfold wcC wcR
    by_cases hz : wcO ws en r = 0
    · have hz' : decide (ixR ws sgC (wsX en ws 0 (muR ws en opB r)).2 6 + 1 = 0) = true := decide_eq_true hz
      rw [if_pos hz, if_pos hz, if_pos hz']; rfl
    · have hz' : ¬ decide (ixR ws sgC (wsX en ws 0 (muR ws en opB r)).2 6 + 1 = 0) = true := fun hx => hz (of_decide_eq_true hx)
      rw [if_neg hz, if_neg hz, if_neg hz']; rfl
  rw [funext e1]
  exact key
end Go.Proofs.Ytbhbjhejkamlnaa.Sx.Z
namespace Go.Proofs.Ytbhbjhejkamlnaa.Sx.Z
open Go.RowKit
theorem seqG_ok {ws : D} {go go' : Rd -> Bool} {F F' : Rd -> List D × Rd} (hF : ∀ r : Rd, rdOK ws r.nx -> r.er = 0 -> go r = true -> (F r = F' r /\ (F' r).2.er = 0) ∨ Bad ws (F r).2 (F' r).2) (hg : ∀ r : Rd, rdOK ws r.nx -> r.er = 0 -> go r = go' r) (hb : ∀ r : Rd, r.er ≠ 0 -> r.nx = ws.len -> go r = false) (hb' : ∀ q : Rd, q.er ≠ 0 -> go' q = false) (sq : SqOK ws go F) (sq' : SqOK ws go' F') : ∀ (n : Nat) (r : Rd) (d : D), rdOK ws r.nx -> r.er = 0 -> left ws r <= n -> (seqA go F ws d r = seqA go' F' ws d r /\ (seqA go' F' ws d r).2.er = 0) ∨ Bad ws (seqA go F ws d r).2 (seqA go' F' ws d r).2 := by
  intro n
  induction n using Nat.strongRecOn with
  | ind n ih =>
    intro r d h h0 hl
    have e := hg r h h0
    cases hz : go r with
    | false =>
      left
      rw [seq_end hz, seq_end (by rw [← e, hz])]
      exact ⟨rfl, h0⟩
    | true =>
      rw [← seq_step sq h hz, ← seq_step sq' (d := d) h (by rw [← e, hz])]
      obtain ⟨u1, u2⟩ := sq.up r h hz
      have u3 := lt_left u1 h u2
      rcases hF r h h0 hz with ⟨e1, e2⟩ | ⟨b1, b2, b3, b4⟩
      · rw [e1] at u1 u3 ⊢
        exact ih _ (by omega) _ _ u1 e2 (Nat.le_refl _)
      · right
        rw [seq_end (hb _ b1 b2), seq_end (hb' _ (by rw [b3]; exact b1))]
        exact ⟨b1, b2, b3, b4⟩
theorem seqG_pr {ws : D} {go go' : Rd -> Bool} {F F' : Rd -> List D × Rd} (hF : ∀ r : Rd, rdOK ws r.nx -> r.er = 0 -> go r = true -> (F r = F' r /\ (F' r).2.er = 0) ∨ Bad ws (F r).2 (F' r).2) (hg : ∀ r : Rd, rdOK ws r.nx -> r.er = 0 -> go r = go' r) (hb : ∀ r : Rd, r.er ≠ 0 -> r.nx = ws.len -> go r = false) (hb' : ∀ q : Rd, q.er ≠ 0 -> go' q = false) (sq : SqOK ws go F) (sq' : SqOK ws go' F') (d : D) : PR ws (fun r => seqA go F ws d r) (fun r => seqA go' F' ws d r) :=
  ⟨fun r h h0 => seqG_ok hF hg hb hb' sq sq' _ r d h h0 (Nat.le_refl _), fun r he hn => by rw [seq_end (hb r he hn)], fun q hq => by rw [seq_end (hb' q hq)], fun r h => (seq_up sq d h).1⟩
theorem seqK_pr {ws : D} (hT : TW ws) {t : ByteArray} (ht : t ∈ kwAll) {F0 F0' : Rd -> List D × Rd} (hF : PR ws F0 F0') (sq : SqOK ws (acG t ws) (fun r => F0 (acR ws t r))) (sq' : SqOK ws (wkG t ws) (fun r => F0' (gx r))) (d : D) : PR ws (fun r => seqA (acG t ws) (fun r => F0 (acR ws t r)) ws d r) (fun r => seqA (wkG t ws) (fun r => F0' (gx r)) ws d r) :=
  seqG_pr (fun r h h0 hg => by
      have ha : acB ws r.nx t = true := hg
      rw [acR_yes ha]
      exact hF.ok (gx r) (gx_up h (ac_lt (kw_pos ht) ha)).1 h0)
    (fun r h h0 => (is_ac hT ht h h0).symm) (fun r _ hn => ac_end (kw_pos ht) hn) (fun q hq => is_er hq) sq sq' d
theorem seqM_ok {ws : D} (hT : TW ws) {en k : Int} (hk : 0 < k) (hk3 : k < 3) {F F' : Rd -> List D × Rd} (hF : PR ws F F') (hfail : ∀ r : Rd, rdOK ws r.nx -> r.er = 0 -> pkK ws r.nx ≠ k -> (F r).2 = fl ws en 5 r) (sq : SqOK ws (fun r => decide (pkK ws r.nx = k)) F) (sq' : SeOK ws (wmG ws) F') : ∀ (n : Nat) (r : Rd) (d : D), rdOK ws r.nx -> r.er = 0 -> left ws r <= n -> ((seqA (fun r => decide (pkK ws r.nx = k)) F ws d r).1 = (seqE (wmG ws) F' ws d r).1 /\ exR ws en cbB (seqA (fun r => decide (pkK ws r.nx = k)) F ws d r).2 = muR ws en cbB (seqE (wmG ws) F' ws d r).2 /\ (muR ws en cbB (seqE (wmG ws) F' ws d r).2).er = 0) ∨ Bad ws (exR ws en cbB (seqA (fun r => decide (pkK ws r.nx = k)) F ws d r).2) (muR ws en cbB (seqE (wmG ws) F' ws d r).2) := by
  have hcb : cbB ∈ kwAll := by simp [kwAll]
  have gf : ∀ r : Rd, r.nx = ws.len -> decide (pkK ws r.nx = k) = false := fun r hn => decide_eq_false (by rw [pkK_end hn]; omega)
  have ge : ∀ q : Rd, q.er ≠ 0 -> wmG ws q = false := fun q hq => by unfold wmG; rw [beq_false_of_ne hq]; rfl
  have go0 : ∀ r : Rd, r.er = 0 -> isB ws cbB r = false -> wmG ws r = true := fun r h0 hb => by unfold wmG; rw [h0, hb]; rfl
  intro n
  induction n using Nat.strongRecOn with
  | ind n ih =>
    intro r d h h0 hl
    have ea := is_ac hT hcb h h0
    by_cases hz : pkK ws r.nx = k
    · have hb : isB ws cbB r = false := by
        rw [ea]
        cases ha : acB ws r.nx cbB with
        | false => rfl
        | true => have := hT r.nx _ hcb h.1 ha; omega
      have gd : (fun r : Rd => decide (pkK ws r.nx = k)) r = true := decide_eq_true hz
      rw [← seq_step sq h gd, ← se_step sq' (d := d) h (go0 r h0 hb)]
      obtain ⟨u1, u2⟩ := sq.up r h gd
      have u3 := lt_left u1 h u2
      rcases hF.ok r h h0 with ⟨e1, e2⟩ | ⟨b1, b2, b3, b4⟩
      · rw [e1] at u1 u3 ⊢
        exact ih _ (by omega) _ _ u1 e2 (Nat.le_refl _)
      · right
        have b5 : (F' r).2.er ≠ 0 := by rw [b3]; exact b1
        rw [seq_end (gf _ b2), se_end (ge _ b5)]
        simp only [ex_bad (kw_pos hcb) b1 b2, mu_bad b5]
        exact ⟨b1, b2, b3, b4⟩
    · have gd : (fun r : Rd => decide (pkK ws r.nx = k)) r = false := decide_eq_false hz
      rw [seq_end gd]
      cases hb : isB ws cbB r with
      | true =>
        left
        have gw : wmG ws r = false := by unfold wmG; rw [hb, Bool.not_true, Bool.and_false]
        rw [se_end gw]
        have e2 : muR ws en cbB r = gx r := if_pos hb
        simp only [exR_yes (ea ▸ hb), e2]
        exact ⟨trivial, trivial, h0⟩
      | false =>
        right
        rw [← se_step sq' (d := d) h (go0 r h0 hb)]
        have ef := hfail r h h0 hz
        have b := fl_ff (ws := ws) (en := en) (e := 5) (by decide) h0
        have hB : Bad ws (fl ws en 5 r) (F' r).2 := by
          rcases hF.ok r h h0 with ⟨e1, e2⟩ | hb2
          · rw [← e1, ef] at e2
            exact absurd e2 b.1
          · rw [ef] at hb2
            exact hb2
        have b5 : (F' r).2.er ≠ 0 := by rw [hB.2.2.1]; exact hB.1
        rw [se_end (ge _ b5)]
        simp only [exR_no (ea ▸ hb), mu_bad b5]
        exact hB
theorem pr_blk {P P' : PB} {en : Int} {ws : D} (hT : TW ws) (hp : ∀ dp, PR ws (P en ws dp) (P' en ws dp)) (hPa : ∀ dp, PbOK ws (P en ws dp)) (dp : Int) : PR ws (blF P en ws dp) (wblF P' en ws dp) := by
  have ho : obB ∈ kwAll := by simp [kwAll]
  have hc : cbB ∈ kwAll := by simp [kwAll]
  have key : PR ws (fun r => ((P en ws (dp + 1) (exR ws en obB r)).1, exR ws en cbB (P en ws (dp + 1) (exR ws en obB r)).2)) (fun r => ((P' en ws (dp + 1) (muR ws en obB r)).1, muR ws en cbB (P' en ws (dp + 1) (muR ws en obB r)).2)) :=
    PR.bind (pr_ex hT en ho) (fun _ => PR.bind (hp (dp + 1)) (f2 := fun d r => (d, exR ws en cbB r)) (g2 := fun d r => (d, muR ws en cbB r)) (fun d => PR.bind (pr_ex hT en hc) (f2 := fun _ r => (d, r)) (g2 := fun _ r => (d, r)) (fun _ => PR.pure d)))
  refine ⟨fun r h h0 => ?_, fun r hr hn => ?_, fun q hq => ?_, fun r h => (blF_up hPa h).2.2.2.1⟩
  · unfold blF wblF
    rw [is_ac hT ho h h0]
    by_cases hx : acB ws r.nx obB = true /\ 24 <= dp
    · right
      rw [if_pos hx]
      have en1 : neR ws en obB dp r = fl ws en 6 r := if_pos hx
      have b := fl_ff (ws := ws) (en := en) (e := 6) (by decide) h0
      simp only [en1, (hp (dp + 1)).fb _ b.1 b.2.1, ex_bad (kw_pos hc) b.1 b.2.1]
      exact b
    · rw [if_neg hx]
      have en1 : neR ws en obB dp r = exR ws en obB r := if_neg hx
      rw [en1]
      exact key.ok r h h0
  · have en1 : neR ws en obB dp r = exR ws en obB r := if_neg (fun hx => by rw [ac_end (kw_pos ho) hn] at hx; exact Bool.false_ne_true hx.1)
    unfold blF
    rw [en1]
    exact key.fb r hr hn
  · unfold wblF
    rw [if_neg (by rw [is_er hq]; exact fun hx => Bool.false_ne_true hx.1)]
    exact key.gb q hq
theorem pr_arm {P P' : PB} {en : Int} {ws : D} (hT : TW ws) (hp : ∀ dp, PR ws (P en ws dp) (P' en ws dp)) (hPa : ∀ dp, PbOK ws (P en ws dp)) (dp : Int) : (∀ n : ByteArray, PR ws (fun r => (Am.row ⟨n, nmS ws (exR ws en opB r), (blF P en ws dp (exR ws en clB (nmR ws en (exR ws en opB r)))).1⟩, (blF P en ws dp (exR ws en clB (nmR ws en (exR ws en opB r)))).2)) (fun r => (Am.row ⟨n, wnS ws (muR ws en opB r), (wblF P' en ws dp (muR ws en clB (wnR ws en 1 (muR ws en opB r)))).1⟩, (wblF P' en ws dp (muR ws en clB (wnR ws en 1 (muR ws en opB r)))).2))) /\ PR ws (amF P en ws dp) (wmF P' en ws dp) := by
  have ho : opB ∈ kwAll := by simp [kwAll]
  have hc : clB ∈ kwAll := by simp [kwAll]
  have h1 : ∀ n : ByteArray, PR ws (fun r => (Am.row ⟨n, nmS ws (exR ws en opB r), (blF P en ws dp (exR ws en clB (nmR ws en (exR ws en opB r)))).1⟩, (blF P en ws dp (exR ws en clB (nmR ws en (exR ws en opB r)))).2)) (fun r => (Am.row ⟨n, wnS ws (muR ws en opB r), (wblF P' en ws dp (muR ws en clB (wnR ws en 1 (muR ws en opB r)))).1⟩, (wblF P' en ws dp (muR ws en clB (wnR ws en 1 (muR ws en opB r)))).2)) := fun n =>
    PR.bind (pr_ex hT en ho) (fun _ => PR.bind (pr_nm en) (f2 := fun v r => (Am.row ⟨n, v, (blF P en ws dp (exR ws en clB r)).1⟩, (blF P en ws dp (exR ws en clB r)).2)) (g2 := fun v r => (Am.row ⟨n, v, (wblF P' en ws dp (muR ws en clB r)).1⟩, (wblF P' en ws dp (muR ws en clB r)).2)) (fun v => PR.bind (pr_ex hT en hc) (fun _ => PR.bind (pr_blk hT hp hPa dp) (f2 := fun b r => (Am.row ⟨n, v, b⟩, r)) (g2 := fun b r => (Am.row ⟨n, v, b⟩, r)) (fun b => PR.pure _))))
  exact ⟨h1, PR.bind (pr_nm en) h1⟩
theorem pr_arms {P P' : PB} {en : Int} {ws : D} (hT : TW ws) (hp : ∀ dp, PR ws (P en ws dp) (P' en ws dp)) (hPa : ∀ en ws dp, PbOK ws (P en ws dp)) (hPa' : ∀ en ws dp, PbOK ws (P' en ws dp)) (hPe : ∀ en ws dp r, (P' en ws dp r).2.er = 0 -> r.er = 0) (dp : Int) : PR ws (fun r => ((seqA (amG ws) (amF P en ws dp) ws (.l [(amF P en ws dp r).1]) (amF P en ws dp r).2).1, exR ws en cbB (seqA (amG ws) (amF P en ws dp) ws (.l [(amF P en ws dp r).1]) (amF P en ws dp r).2).2)) (fun r => ((wmL P' en ws dp (.l []) r).1, muR ws en cbB (wmL P' en ws dp (.l []) r).2)) := by
  have hcb : cbB ∈ kwAll := by simp [kwAll]
  obtain ⟨hA, hB⟩ := pr_arm hT hp (fun dp => hPa en ws dp) dp
  have hfail : ∀ r : Rd, rdOK ws r.nx -> r.er = 0 -> pkK ws r.nx ≠ 1 -> (amF P en ws dp r).2 = fl ws en 5 r := fun r h h0 hk => by
    have e : nmR ws en r = fl ws en 5 r := if_neg hk
    have b := fl_ff (ws := ws) (en := en) (e := 5) (by decide) h0
    have := (hA (nmS ws r)).fb (fl ws en 5 r) b.1 b.2.1
    rw [← e] at this ⊢
    exact this
  have gE : ∀ q : Rd, q.er ≠ 0 -> wmL P' en ws dp (.l []) q = (.l [], q) := fun q hq => wmL_end (.inl hq)
  refine ⟨fun r h h0 => ?_, fun r hr hn => ?_, fun q hq => ?_, fun r h => ?_⟩
  · have eL : wmL P' en ws dp (.l []) r = seqE (wmG ws) (wmF P' en ws dp) ws (.l [(wmF P' en ws dp r).1]) (wmF P' en ws dp r).2 := (if_pos (show (D.l []).len = 0 from rfl)).trans (if_pos h0)
    simp only [eL]
    have u := hB.up r h
    rcases hB.ok r h h0 with ⟨e1, e2⟩ | ⟨b1, b2, b3, b4⟩
    · rw [e1] at u ⊢
      rcases seqM_ok hT (en := en) (k := 1) (by decide) (by decide) hB hfail (am_sq (fun dp => hPa en ws dp) dp) (wm_se (fun dp => hPa' en ws dp) hPe dp) _ (wmF P' en ws dp r).2 (.l [(wmF P' en ws dp r).1]) u e2 (Nat.le_refl _) with ⟨c1, c2, c3⟩ | c
      · exact .inl ⟨Prod.ext c1 c2, c3⟩
      · exact .inr c
    · right
      have b5 : (wmF P' en ws dp r).2.er ≠ 0 := by rw [b3]; exact b1
      have g1 : amG ws (amF P en ws dp r).2 = false := decide_eq_false (by rw [pkK_end b2]; decide)
      have g2 : wmG ws (wmF P' en ws dp r).2 = false := by unfold wmG; rw [beq_false_of_ne b5]; rfl
      rw [seq_end g1, se_end g2]
      simp only [ex_bad (kw_pos hcb) b1 b2, mu_bad b5]
      exact ⟨b1, b2, b3, b4⟩
  · have e := hB.fb r hr hn
    have g1 : amG ws (amF P en ws dp r).2 = false := decide_eq_false (by rw [e, pkK_end hn]; decide)
    show exR ws en cbB (seqA (amG ws) (amF P en ws dp) ws (.l [(amF P en ws dp r).1]) (amF P en ws dp r).2).2 = r
    rw [seq_end g1]
    show exR ws en cbB (amF P en ws dp r).2 = r
    rw [e]
    exact ex_bad (kw_pos hcb) hr hn
  · simp only [gE q hq]
    exact mu_bad hq
  · have u := hB.up r h
    exact (ex_up en (seq_up (am_sq (fun dp => hPa en ws dp) dp) (.l [(amF P en ws dp r).1]) u).1 (kw_pos hcb)).1
end Go.Proofs.Ytbhbjhejkamlnaa.Sx.Z
namespace Go.Proofs.Ytbhbjhejkamlnaa.Sx.Z
open Go.RowKit
theorem pr_stF {P P' : PB} {en : Int} {ws : D} (hT : TW ws) (hp : ∀ dp, PR ws (P en ws dp) (P' en ws dp)) (hPa : ∀ en ws dp, PbOK ws (P en ws dp)) (hPa' : ∀ en ws dp, PbOK ws (P' en ws dp)) (hPe : ∀ en ws dp r, (P' en ws dp r).2.er = 0 -> r.er = 0) (dp : Int) : PR ws (stH P en ws dp) (wtH P' en ws dp) := by
  have hB := fun dp => pr_blk hT hp (fun dp => hPa en ws dp) dp
  have hE : ∀ {t : ByteArray}, t ∈ kwAll -> PR ws (fun r => ((), exR ws en t r)) (fun r => ((), muR ws en t r)) := fun ht => pr_ex hT en ht
  have hM := smX_pr hT en 0
  have hC := pr_cond hT en
  have hN := pr_nm (ws := ws) en
  have cS : ∀ s : St, PR ws (fun r => (s, r)) (fun r => (s, r)) := fun s => PR.pure s
  have aF : PR ws (fun x => ((⟨2, ByteArray.empty, ByteArray.empty, X00, cdC ws en x, (blF P en ws dp (cdR ws en x)).1, (if acB ws (blF P en ws dp (cdR ws en x)).2.nx kwL = true then blF P en ws dp (acR ws kwL (blF P en ws dp (cdR ws en x)).2) else (.l [], acR ws kwL (blF P en ws dp (cdR ws en x)).2)).1, .l []⟩ : St), (if acB ws (blF P en ws dp (cdR ws en x)).2.nx kwL = true then blF P en ws dp (acR ws kwL (blF P en ws dp (cdR ws en x)).2) else (.l [], acR ws kwL (blF P en ws dp (cdR ws en x)).2)).2)) (fun x => ((⟨2, ByteArray.empty, ByteArray.empty, X00, wcC ws en x, (wblF P' en ws dp (wcR ws en x)).1, (if isB ws kwL (wblF P' en ws dp (wcR ws en x)).2 = true then wblF P' en ws dp (gx (wblF P' en ws dp (wcR ws en x)).2) else (.l [], (wblF P' en ws dp (wcR ws en x)).2)).1, .l []⟩ : St), (if isB ws kwL (wblF P' en ws dp (wcR ws en x)).2 = true then wblF P' en ws dp (gx (wblF P' en ws dp (wcR ws en x)).2) else (.l [], (wblF P' en ws dp (wcR ws en x)).2)).2)) :=
    PR.bind hC (fun c => PR.bind (hB dp) (fun b => PR.bind (PR.kw2 hT (t := kwL) (by simp [kwAll]) (hB dp) (PR.pure (.l []))) (f2 := fun e r => ((⟨2, ByteArray.empty, ByteArray.empty, X00, c, b, e, .l []⟩ : St), r)) (g2 := fun e r => ((⟨2, ByteArray.empty, ByteArray.empty, X00, c, b, e, .l []⟩ : St), r)) (fun e => PR.pure _)))
  have aW : PR ws (fun x => ((⟨3, ByteArray.empty, ByteArray.empty, X00, cdC ws en x, (blF P en ws dp (cdR ws en x)).1, .l [], .l []⟩ : St), (blF P en ws dp (cdR ws en x)).2)) (fun x => ((⟨3, ByteArray.empty, ByteArray.empty, X00, wcC ws en x, (wblF P' en ws dp (wcR ws en x)).1, .l [], .l []⟩ : St), (wblF P' en ws dp (wcR ws en x)).2)) :=
    PR.bind hC (fun c => PR.bind (hB dp) (f2 := fun b r => ((⟨3, ByteArray.empty, ByteArray.empty, X00, c, b, .l [], .l []⟩ : St), r)) (g2 := fun b r => ((⟨3, ByteArray.empty, ByteArray.empty, X00, c, b, .l [], .l []⟩ : St), r)) (fun b => PR.pure _))
  have aS := PR.bind hN (fun n => PR.bind (hE (t := doB) (by simp [kwAll])) (fun _ => PR.bind hN (fun t => PR.bind (hE (t := opB) (by simp [kwAll])) (fun _ => PR.bind hM (fun e => PR.bind (hE (t := clB) (by simp [kwAll])) (fun _ => PR.bind (hE (t := seB) (by simp [kwAll])) (fun _ => cS ⟨4, n, t, e, C00, .l [], .l [], .l []⟩)))))))
  have aR := PR.bind hN (fun n => PR.bind (hE (t := obB) (by simp [kwAll])) (fun _ => PR.bind (pr_arms hT hp hPa hPa' hPe dp) (fun a => cS ⟨5, n, ByteArray.empty, X00, C00, .l [], .l [], a⟩)))
  have aA := PR.bind hC (fun c => PR.bind (hE (t := seB) (by simp [kwAll])) (fun _ => cS ⟨6, ByteArray.empty, ByteArray.empty, X00, c, .l [], .l [], .l []⟩))
  have aI := PR.bind hN (fun n => PR.bind (hE (t := seB) (by simp [kwAll])) (fun _ => cS ⟨7, n, ByteArray.empty, X00, C00, .l [], .l [], .l []⟩))
  have aG := PR.bind hN (fun n => PR.bind (hE (t := eqB) (by simp [kwAll])) (fun _ => PR.bind hM (fun e => PR.bind (hE (t := seB) (by simp [kwAll])) (fun _ => cS ⟨1, n, ByteArray.empty, e, C00, .l [], .l [], .l []⟩))))
  have key := PR.kw hT en (t := kwF) (by simp [kwAll]) aF (PR.kw hT en (t := kwW) (by simp [kwAll]) aW (PR.kw hT en (t := kwS) (by simp [kwAll]) aS (PR.kw hT en (t := kwR) (by simp [kwAll]) aR (PR.kw hT en (t := kwA) (by simp [kwAll]) aA (PR.kw hT en (t := kwI) (by simp [kwAll]) aI aG)))))
  have k2 : PR ws (stF P en ws dp) (wtF P' en ws dp) := key
  exact PR.bind k2 (f2 := fun s r => (s.row, r)) (g2 := fun s r => (s.row, r)) (fun s => PR.pure s.row)
theorem st_go {ws : D} (hT : TW ws) {r : Rd} (h : rdOK ws r.nx) (h0 : r.er = 0) : stG ws r = wtG ws r := by
  unfold stG wtG
  rw [is_ac hT (t := kwF) (by simp [kwAll]) h h0, is_ac hT (t := kwW) (by simp [kwAll]) h h0, is_ac hT (t := kwS) (by simp [kwAll]) h h0, is_ac hT (t := kwR) (by simp [kwAll]) h h0, is_ac hT (t := kwA) (by simp [kwAll]) h h0, is_ac hT (t := kwI) (by simp [kwAll]) h h0, ki_ok (by decide) h0]
theorem st_end {ws : D} {r : Rd} (hn : r.nx = ws.len) : stG ws r = false := by
  unfold stG
  rw [ac_end (by decide) hn, ac_end (by decide) hn, ac_end (by decide) hn, ac_end (by decide) hn, ac_end (by decide) hn, ac_end (by decide) hn, decide_eq_false (by rw [pkK_end hn]; decide)]; rfl
theorem pr_smA {P P' : PB} {en : Int} {ws : D} (hT : TW ws) (hp : ∀ dp, PR ws (P en ws dp) (P' en ws dp)) (hPa : ∀ en ws dp, PbOK ws (P en ws dp)) (hPa' : ∀ en ws dp, PbOK ws (P' en ws dp)) (hPe : ∀ en ws dp r, (P' en ws dp r).2.er = 0 -> r.er = 0) (dp : Int) : PR ws (smA P en ws dp) (wtA P' en ws dp) :=
  seqG_pr (fun r h h0 _ => (pr_stF hT hp hPa hPa' hPe dp).ok r h h0) (fun r h h0 => st_go hT h h0) (fun _ _ hn => st_end hn) (fun _ hq => wtG_er hq) (st_sq (hPa en ws) dp) (wt_sq (hPa' en ws) hPe dp) (.l [])
theorem stR_pr {en : Int} {ws : D} (hT : TW ws) : ∀ (m : Nat) (dp : Int), PR ws (stR m en ws dp) (wtR m en ws dp)
  | 0, _ => ⟨fun _ _ h => .inl ⟨rfl, h⟩, fun _ _ _ => rfl, fun _ _ => rfl, fun _ h => h⟩
  | m + 1, dp => pr_smA hT (stR_pr hT m) (stR_up m) (wtR_up m) (wtR_er m) dp
theorem stX_pr {ws : D} (hT : TW ws) (en dp : Int) : PR ws (stX en ws dp) (wtX en ws dp) := by
  unfold stX wtX
  exact stR_pr hT 1000001 dp
end Go.Proofs.Ytbhbjhejkamlnaa.Sx.Z
namespace Go.Proofs.Ytbhbjhejkamlnaa.Sx.Z
open Go.RowKit
theorem PR.congr {α : Type} {ws : D} {f g f' g' : Rd -> α × Rd} (h : PR ws f g) (e : ∀ r, f' r = f r) (e' : ∀ r, g' r = g r) : PR ws f' g' := by
  rw [funext e, funext e']
  exact h
theorem ck_pick {ws : D} (hT : TW ws) (en : Int) {r : Rd} (h : rdOK ws r.nx) (h0 : r.er = 0) : (ixR ws sgK r 3 < 0 -> ckR ws en r = fl ws en 5 r) /\ (¬ ixR ws sgK r 3 < 0 -> ckK ws r = ixR ws sgK r 3 /\ ckR ws en r = gx r) := by
  have e0 := is_ac hT (t := kwB) (by simp [kwAll]) h h0
  have e1 := is_ac hT (t := kwD) (by simp [kwAll]) h h0
  have e2 := is_ac hT (t := kwY) (by simp [kwAll]) h h0
  have hx : ixR ws sgK r 3 = if isB ws kwY r = true then ((2 : Nat) : Int) else if isB ws kwD r = true then ((1 : Nat) : Int) else if isB ws kwB r = true then ((0 : Nat) : Int) else -1 := rfl
  rw [e0, e1, e2] at hx
  by_cases k0 : acB ws r.nx kwB = true
  · have k : ((pkS ws r.nx).toList == kwB.toList) = true := k0
    have o1 : acB ws r.nx kwD = false := by show ((pkS ws r.nx).toList == kwD.toList) = false; rw [eq_of_beq k]; decide +kernel
    have o2 : acB ws r.nx kwY = false := by show ((pkS ws r.nx).toList == kwY.toList) = false; rw [eq_of_beq k]; decide +kernel
    rw [k0, o1, o2] at hx
    simp only [Bool.false_eq_true, if_false, if_true] at hx
    have a1 : ckK ws r = 0 := if_pos k0
    have a2 : ckR ws en r = acR ws kwB r := if_pos k0
    rw [hx, a1, a2, acR_yes k0]
    exact ⟨fun hh => absurd hh (by decide), fun _ => ⟨rfl, rfl⟩⟩
  · have n0 := Bool.eq_false_iff.2 k0
    by_cases k1 : acB ws r.nx kwD = true
    · have k : ((pkS ws r.nx).toList == kwD.toList) = true := k1
      have o2 : acB ws r.nx kwY = false := by show ((pkS ws r.nx).toList == kwY.toList) = false; rw [eq_of_beq k]; decide +kernel
      rw [n0, k1, o2] at hx
      simp only [Bool.false_eq_true, if_false, if_true] at hx
      have a1 : ckK ws r = 1 := by unfold ckK; rw [if_neg k0, acR_no n0, if_pos k1]
      have a2 : ckR ws en r = acR ws kwD r := by unfold ckR; rw [if_neg k0, acR_no n0, if_pos k1]
      rw [hx, a1, a2, acR_yes k1]
      exact ⟨fun hh => absurd hh (by decide), fun _ => ⟨rfl, rfl⟩⟩
    · have n1 := Bool.eq_false_iff.2 k1
      have a1 : ckK ws r = 2 := by unfold ckK; rw [if_neg k0, acR_no n0, if_neg k1]
      have a2 : ckR ws en r = exR ws en kwY r := by unfold ckR; rw [if_neg k0, acR_no n0, if_neg k1, acR_no n1]
      by_cases k2 : acB ws r.nx kwY = true
      · rw [n0, n1, k2] at hx
        simp only [Bool.false_eq_true, if_false, if_true] at hx
        rw [hx, a1, a2, exR_yes k2]
        exact ⟨fun hh => absurd hh (by decide), fun _ => ⟨rfl, rfl⟩⟩
      · have n2 := Bool.eq_false_iff.2 k2
        rw [n0, n1, n2] at hx
        simp only [Bool.false_eq_true, if_false, if_true] at hx
        rw [hx, a2, exR_no n2]
        exact ⟨fun _ => rfl, fun hh => absurd (show (-1 : Int) < 0 by decide) hh⟩
theorem ck_bad {ws : D} {en : Int} {r : Rd} (he : r.er ≠ 0) (hn : r.nx = ws.len) : ckR ws en r = r := by
  have n0 : acB ws r.nx kwB = false := ac_end (by decide) hn
  have n1 : acB ws r.nx kwD = false := ac_end (by decide) hn
  unfold ckR
  rw [if_neg (by rw [n0]; decide), acR_no n0, if_neg (by rw [n1]; decide), acR_no n1, ex_bad (by decide) he hn]
theorem pr_ch {ws : D} (hT : TW ws) (en : Int) : PR ws (fun r => (chZ ws en r, chR ws en r)) (fun r => (wkZ ws en r, wkR ws en r)) := by
  have hE : ∀ {t : ByteArray}, t ∈ kwAll -> PR ws (fun r => ((), exR ws en t r)) (fun r => ((), muR ws en t r)) := fun ht => pr_ex hT en ht
  have hN := pr_nm (ws := ws) en
  have hL : ∀ d, PR ws (fun r => seqA (acG coB ws) (tgF ws en) ws d r) (fun r => seqA (wkG coB ws) (wkF ws en) ws d r) := fun d =>
    seqK_pr hT (t := coB) (by simp [kwAll]) (F0 := fun r => ([.s (nmS ws r)], nmR ws en r)) (F0' := fun r => ([.s (wnS ws r)], wnR ws en 1 r)) (PR.bind hN (fun n => PR.pure ([.s n] : List D))) (tg_sq en) (wk_sq en) d
  have h2 := fun (n : ByteArray) (a : Int) => PR.bind (pr_nu (ws := ws) en) (fun z => PR.bind (hE (t := kwO) (by simp [kwAll])) (fun _ => PR.bind hN (fun f => PR.bind (hE (t := kwT) (by simp [kwAll])) (fun _ => PR.bind hN (fun t => PR.bind (hE (t := obB) (by simp [kwAll])) (fun _ => PR.bind hN (fun g => PR.bind (hL (.l [[.s g]])) (fun d => PR.bind (hE (t := cbB) (by simp [kwAll])) (fun _ => PR.bind (hE (t := seB) (by simp [kwAll])) (fun _ => PR.pure (Ch.mk n a z f t d)))))))))))
  have h1 := fun n : ByteArray => PR.pick (ws := ws) (en := en) (kv := fun r => ckK ws r) (kr := fun r => ckR ws en r) (kx := fun q => ixR ws sgK q 3) (c := fun q => decide (ixR ws sgK q 3 < 0)) (v := fun q => Ch.mk n (ixR ws sgK q 3) 0 ByteArray.empty ByteArray.empty (.l []))
    (fun r h h0 hz => (ck_pick hT en h h0).2 (of_decide_eq_false hz)) (fun r h h0 hz => (ck_pick hT en h h0).1 (of_decide_eq_true hz)) (fun r he hn => ck_bad he hn) (fun q hq => by rw [ix_er hq]; rfl) (fun r h => (ck_up en h).2.2.1) (h2 n)
  refine PR.congr (PR.bind hN h1) (fun r => rfl) (fun r => ?_)
  unfold wkZ wkR
  by_cases hz : wkK ws en r < 0
  · have hz' : decide (ixR ws sgK (wnR ws en 1 r) 3 < 0) = true := decide_eq_true hz
    rw [if_pos hz, if_pos hz]
    exact (if_pos hz').symm
  · have hz' : ¬ decide (ixR ws sgK (wnR ws en 1 r) 3 < 0) = true := fun hx => hz (of_decide_eq_true hx)
    rw [if_neg hz, if_neg hz]
    exact (if_neg hz').symm
theorem pr_ru {ws : D} (hT : TW ws) (en : Int) : PR ws (fun r => (ruZ ws en r, ruR ws en r)) (fun r => (wuZ ws en r, wuR ws en r)) := by
  have hcb : cbB ∈ kwAll := by simp [kwAll]
  have hE : ∀ {t : ByteArray}, t ∈ kwAll -> PR ws (fun r => ((), exR ws en t r)) (fun r => ((), muR ws en t r)) := fun ht => pr_ex hT en ht
  have hN := pr_nm (ws := ws) en
  have hU := pr_nu (ws := ws) en
  have h1 : ∀ a : Int, PR ws (fun r => (([.i a, .s (nmS ws r), .i (nuN ws (nmR ws en r))] : List D), exR ws en seB (nuR ws en (nmR ws en r)))) (fun r => (([.i a, .s (wnS ws r), .i (wnN ws (wnR ws en 1 r))] : List D), muR ws en seB (wnR ws en 2 (wnR ws en 1 r)))) := fun a =>
    PR.bind hN (fun n => PR.bind hU (fun b => PR.bind (hE (t := seB) (by simp [kwAll])) (fun _ => PR.pure ([.i a, .s n, .i b] : List D))))
  have hF : PR ws (mvF ws en) (wuF ws en) := PR.bind hU h1
  have hfail : ∀ r : Rd, rdOK ws r.nx -> r.er = 0 -> pkK ws r.nx ≠ 2 -> (mvF ws en r).2 = fl ws en 5 r := fun r h h0 hk => by
    have e : nuR ws en r = fl ws en 5 r := if_neg hk
    have b := fl_ff (ws := ws) (en := en) (e := 5) (by decide) h0
    have := (h1 (nuN ws r)).fb (fl ws en 5 r) b.1 b.2.1
    rw [← e] at this ⊢
    exact this
  have hM : PR ws (fun r => ((seqA (mvG ws) (mvF ws en) ws (.l []) r).1, exR ws en cbB (seqA (mvG ws) (mvF ws en) ws (.l []) r).2)) (fun r => ((seqE (wmG ws) (wuF ws en) ws (.l []) r).1, muR ws en cbB (seqE (wmG ws) (wuF ws en) ws (.l []) r).2)) := by
    refine ⟨fun r h h0 => ?_, fun r hr hn => ?_, fun q hq => ?_, fun r h => ?_⟩
    · rcases seqM_ok hT (en := en) (k := 2) (by decide) (by decide) hF hfail (mv_sq en) (wu_se en) _ r (.l []) h h0 (Nat.le_refl _) with ⟨c1, c2, c3⟩ | c
      · exact .inl ⟨Prod.ext c1 c2, c3⟩
      · exact .inr c
    · have g1 : mvG ws r = false := decide_eq_false (by rw [pkK_end hn]; decide)
      rw [seq_end g1]
      exact ex_bad (kw_pos hcb) hr hn
    · have g2 : wmG ws q = false := by unfold wmG; rw [beq_false_of_ne hq]; rfl
      rw [se_end g2]
      exact mu_bad hq
    · exact (ex_up en (seq_up (mv_sq en) (.l []) h).1 (kw_pos hcb)).1
  exact PR.bind hN (fun n => PR.bind (hE (t := obB) (by simp [kwAll])) (fun _ => PR.bind hM (fun d => PR.pure (Ru.mk n d))))
theorem pr_po {ws : D} (hT : TW ws) (en : Int) : PR ws (fun r => (poZ ws en r, poR ws en r)) (fun r => (wpZ ws en r, wpR ws en r)) := by
  have hE : ∀ {t : ByteArray}, t ∈ kwAll -> PR ws (fun r => ((), exR ws en t r)) (fun r => ((), muR ws en t r)) := fun ht => pr_ex hT en ht
  have hN := pr_nm (ws := ws) en
  have hL : PR ws (fun r => seqA (acG kwV ws) (vrF ws en) ws (.l []) r) (fun r => seqA (wkG kwV ws) (wvF ws en) ws (.l []) r) :=
    seqK_pr hT (t := kwV) (by simp [kwAll]) (F0 := fun r => ([.s (nmS ws r)], exR ws en seB (nmR ws en r))) (F0' := fun r => ([.s (wnS ws r)], muR ws en seB (wnR ws en 1 r))) (PR.bind hN (fun n => PR.bind (hE (t := seB) (by simp [kwAll])) (fun _ => PR.pure ([.s n] : List D)))) (vr_sq en) (wvF_sq en) (.l [])
  exact PR.bind hN (fun n => PR.bind (hE (t := obB) (by simp [kwAll])) (fun _ => PR.bind hL (fun v => PR.bind (stX_pr hT en 0) (fun b => PR.bind (hE (t := cbB) (by simp [kwAll])) (fun _ => PR.pure (Po.mk n v b))))))
theorem pr_fin {ws : D} (en : Int) : PR ws (fun r => ((), fiR ws en r)) (fun r => ((), if r.nx < ws.len then ffR ws en 5 r else r)) := by
  refine ⟨fun r h h0 => ?_, fun r hr hn => ?_, fun q hq => ?_, fun r h => ?_⟩
  · by_cases hn : r.nx < ws.len
    · right
      have e1 : fiR ws en r = fl ws en 5 r := if_pos hn
      simp only [e1, if_pos hn]
      exact fl_ff (by decide) h0
    · left
      have e1 : fiR ws en r = r := if_neg hn
      simp only [e1, if_neg hn]
      exact ⟨trivial, h0⟩
  · exact if_neg (by omega)
  · show (if q.nx < ws.len then ffR ws en 5 q else q) = q
    rw [ff_bad hq]
    split <;> rfl
  · show rdOK ws (fiR ws en r).nx
    unfold fiR
    split
    · exact (fl_up en 5 h).1
    · exact h
theorem pr_sys {ws : D} (hT : TW ws) (en : Int) : PR ws (fun r => (((syC ws en r).1, (syU ws en r).1, (syP ws en r).1), syR ws en r)) (fun r => (((wyC ws en r).1, (wyU ws en r).1, (wyP ws en r).1), wyR ws en r)) := by
  have h0 : PR ws (fun r => syC ws en r) (fun r => wyC ws en r) :=
    seqK_pr hT (t := kwC) (by simp [kwAll]) (F0 := fun r => ((chZ ws en r).row, chR ws en r)) (F0' := fun r => ((wkZ ws en r).row, wkR ws en r)) (PR.bind (pr_ch hT en) (fun c => PR.pure c.row)) (cs_sq en) (wy0_sq en) (.l [])
  have h1 : PR ws (fun r => seqA (acG kwU ws) (usF ws en) ws (.l []) r) (fun r => seqA (wkG kwU ws) (wyF1 ws en) ws (.l []) r) :=
    seqK_pr hT (t := kwU) (by simp [kwAll]) (F0 := fun r => ((ruZ ws en r).row, ruR ws en r)) (F0' := fun r => ((wuZ ws en r).row, wuR ws en r)) (PR.bind (pr_ru hT en) (fun c => PR.pure c.row)) (us_sq en) (wy1_sq en) (.l [])
  have h2 : PR ws (fun r => seqA (acG kwP ws) (psF ws en) ws (.l []) r) (fun r => seqA (wkG kwP ws) (wyF2 ws en) ws (.l []) r) :=
    seqK_pr hT (t := kwP) (by simp [kwAll]) (F0 := fun r => ((poZ ws en r).row, poR ws en r)) (F0' := fun r => ((wpZ ws en r).row, wpR ws en r)) (PR.bind (pr_po hT en) (fun c => PR.pure c.row)) (ps_sq en) (wy2_sq en) (.l [])
  exact PR.bind h0 (fun c => PR.bind h1 (fun u => PR.bind h2 (fun p => PR.bind (pr_fin en) (fun _ => PR.pure (c, u, p)))))
theorem parse_same {s : ByteArray} (hT : TW (paW s)) : paC s = rpC s /\ paU s = rpU s /\ paP s = rpP s /\ paA s = rpA s /\ paE s = rpE s := by
  by_cases hl : (lexR s).2.2 = 0
  · rcases (pr_sys hT ((s.size : Nat) : Int)).ok (mR 0 0 0) (paW_ok s) rfl with ⟨e1, e2⟩ | ⟨b1, b2, b3, b4⟩
    · obtain ⟨ev, er⟩ := Prod.mk.inj e1
      obtain ⟨ec, ev2⟩ := Prod.mk.inj ev
      obtain ⟨eu, ep⟩ := Prod.mk.inj ev2
      have r0 : (rpY s).er = 0 := e2
      have p0 : paY s = rpY s := er
      obtain ⟨a1, a2, a3, a4, a5⟩ := rp_good hl rfl r0
      have o : paO s = true := by simp only [paO, decide_eq_true hl, p0, decide_eq_true r0, Bool.and_self]
      rw [a1, a2, a3, a4, a5]
      simp only [paC, paU, paP, paA, paE, o, if_true, if_pos hl, p0, r0]
      exact ⟨ec, eu, ep, by (repeat' (with_reducible apply And.intro)) <;> trivial⟩
    · have b1 : (paY s).er ≠ 0 := b1
      have b3 : (rpY s).er = (paY s).er := b3
      have b4 : (rpY s).pa = (paY s).pa := b4
      obtain ⟨a1, a2, a3, a4, a5⟩ := rp_bad hl rfl (by rw [b3]; exact b1)
      have o : paO s = false := by simp only [paO, decide_eq_false b1, Bool.and_false]
      rw [a1, a2, a3, a4, a5, b3, b4]
      simp only [paC, paU, paP, paA, paE, o, Bool.false_eq_true, if_false, if_pos hl, if_neg b1, and_self]
  · obtain ⟨a1, a2, a3, a4, a5⟩ := rp_lex hl
    have o : paO s = false := by simp only [paO, decide_eq_false hl, Bool.false_and]
    rw [a1, a2, a3, a4, a5]
    simp only [paC, paU, paP, paA, paE, o, Bool.false_eq_true, if_false, if_neg hl, and_self]
end Go.Proofs.Ytbhbjhejkamlnaa.Sx.Z
namespace Go.Proofs.Ytbhbjhejkamlnaa.Sx.Z
open Go.RowKit
def tokOK (t : Tok) : Prop := ∀ w ∈ kwAll, t.text.toList = w.toList -> 3 <= t.kind
theorem kw_let : ∀ w ∈ kwAll, letU (w.data.toList.headD 0) = true -> resB w.data.toList = true := by decide
theorem kw_dig : ∀ w ∈ kwAll, digU (w.data.toList.headD 0) = false := by decide
theorem head_take {r : List UInt8} {n : Nat} (h : 1 <= n) : (r.take n).headD 0 = r.headD 0 := by
  cases r with
  | nil => simp
  | cons a t =>
    obtain ⟨m, rfl⟩ : ∃ m, n = m + 1 := ⟨n - 1, by omega⟩
    rfl
theorem word_ok {r : List UInt8} {k : Int} {n : Nat} {m : Int} (h0 : 0 < r.length) (h : wordE r = .ok (k, n, m)) {w : ByteArray} (hw : w ∈ kwAll) (hx : r.take n = w.data.toList) : 3 <= k := by
  obtain ⟨h1, _⟩ := wordE_ok h0 h
  have hh : r.headD 0 = w.data.toList.headD 0 := by rw [← hx, head_take h1]
  unfold wordE at h
  by_cases hl : letU (r.headD 0) = true
  · rw [if_pos hl] at h
    unfold nameE at h
    split at h
    · cases h
    · simp only [Except.ok.injEq, Prod.mk.injEq] at h
      obtain ⟨a, b, c⟩ := h
      rw [b, hx, kw_let w hw (by rw [← hh]; exact hl), if_pos rfl] at a
      omega
  · rw [if_neg hl] at h
    have hd : digU (r.headD 0) = false := by rw [hh]; exact kw_dig w hw
    rw [if_neg (by rw [hd]; decide)] at h
    unfold sgnE at h
    split at h
    · cases h
    · simp only [Except.ok.injEq, Prod.mk.injEq] at h
      omega
theorem ext_list (s : ByteArray) (p n : Nat) : (s.extract p (p + n)).data.toList = (s.data.toList.drop p).take n := by
  rw [ByteArray.data_extract, Array.toList_extract, List.extract_eq_take_drop, Nat.add_sub_cancel_left]
theorem go_ok (s : ByteArray) : ∀ (f p : Nat) (acc l : List Tok), (∀ t ∈ acc, tokOK t) -> lexGo s f p acc = .ok l -> ∀ t ∈ l, tokOK t
  | 0, p, acc, l, h, e => by
    obtain rfl : acc = l := by unfold lexGo at e; exact Except.ok.inj e
    exact h
  | f + 1, p, acc, l, h, e => by
    unfold lexGo at e
    split at e
    · rename_i hp
      split at e
      · exact go_ok s f (p + 1) acc l h e
      · split at e
        · cases e
        · rename_i k n m hw
          refine go_ok s f (p + n) _ l (fun t ht => ?_) e
          rcases List.mem_append.1 ht with ht | ht
          · exact h t ht
          · obtain rfl := List.mem_singleton.1 ht
            intro w hw2 hx
            have hr : 0 < (s.data.toList.drop p).length := by
              have e2 : s.data.toList.length = s.size := Array.length_toList
              rw [List.length_drop]; omega
            refine word_ok hr hw hw2 ?_
            have hx : (s.extract p (p + n)).toList = w.toList := hx
            rw [ByteArray.toList_eq, ByteArray.toList_eq, ext_list] at hx
            exact hx
    · obtain rfl : acc = l := Except.ok.inj e
      exact h
theorem paW_tw (s : ByteArray) : TW (paW s) := by
  have hall : ∀ t ∈ (lexR s).1, tokOK t := by
    unfold lexR
    split
    · intro t ht; cases ht
    · rename_i acc he
      split
      · intro t ht; cases ht
      · exact go_ok s s.size 0 [] acc (fun t ht => by cases ht) he
  intro nx w hw h0 ha
  have hl := ac_lt (kw_pos hw) ha
  have e : (paW s).len = (lexR s).1.length := tokD_len _
  have hi : nx.toNat < (lexR s).1.length := by omega
  have hg : (lexR s).1[nx.toNat]? = some (lexR s).1[nx.toNat] := List.getElem?_eq_getElem hi
  have hs : pkS (paW s) nx = ((lexR s).1[nx.toNat]).text := by
    rw [(pk_in hl).1]
    show ((tokD (lexR s).1).el nx.toNat 1).toS = _
    rw [tokD_el hg]; rfl
  have hk : pkK (paW s) nx = ((lexR s).1[nx.toNat]).kind := by
    rw [(pk_in hl).2]
    show ((tokD (lexR s).1).el nx.toNat 0).toI = _
    rw [tokD_el hg]; rfl
  have ha : ((pkS (paW s) nx).toList == w.toList) = true := ha
  rw [hk]
  exact hall _ (List.getElem_mem hi) w hw (by rw [← hs]; exact eq_of_beq ha)
theorem parse_eq (s : ByteArray) : paC s = rpC s /\ paU s = rpU s /\ paP s = rpP s /\ paA s = rpA s /\ paE s = rpE s := parse_same (paW_tw s)
end Go.Proofs.Ytbhbjhejkamlnaa.Sx.Z
namespace Go.Proofs.Ytbhbjhejkamlnaa.Sx.Z
open Go.RowKit
def rax0 (s_ : ByteArray) (i : D × Rd) : List D := [D.s (wkZ (paW s_) (en9 s_) (gw i.snd)).nm, D.i (wkZ (paW s_) (en9 s_) (gw i.snd)).k, D.i (wkZ (paW s_) (en9 s_) (gw i.snd)).n, D.s (wkZ (paW s_) (en9 s_) (gw i.snd)).fr, D.s (wkZ (paW s_) (en9 s_) (gw i.snd)).to, (wkZ (paW s_) (en9 s_) (gw i.snd)).tg.sub 0 ((0 : Nat) + (wkZ (paW s_) (en9 s_) (gw i.snd)).tg.len)]
def rax1 (s_ : ByteArray) (i : D × Rd) (i_1 : D × Rd) : List D := [D.s (wnS (paW s_) (gw i.snd)), i_1.fst.sub 0 ((0 : Nat) + i_1.fst.len), (wtX (en9 s_) (paW s_) (0 : Int) i_1.snd).fst.sub 0 ((0 : Nat) + (wtX (en9 s_) (paW s_) (0 : Int) i_1.snd).fst.len)]
def rax2 (s_ : ByteArray) (i_1 : D × Rd) : List D := [D.i (wnN (paW s_) i_1.snd), D.s (wnS (paW s_) (wnR (paW s_) (en9 s_) (2 : Int) i_1.snd)), D.i (wnN (paW s_) (wnR (paW s_) (en9 s_) (1 : Int) (wnR (paW s_) (en9 s_) (2 : Int) i_1.snd)))]
noncomputable def rpaS : List Dat -> Option Eff := fun ds => match ds with
  | [.s s_] => some { val := .tup [.agg [.c (.osl 73 0 (.lit 0) (.sym ((rpC s_).len))), .c (.osl 78 1 (.lit 0) (.sym ((rpU s_).len))), .c (.osl 54 2 (.lit 0) (.sym ((rpP s_).len)))], .sc (.int .i64 (.sym (rpA s_))), .sc (.int .i64 (.sym (rpE s_)))], vc := [s_.size <= 2147483647], nw := [(0, .orow 73 (rpC s_)), (1, .orow 78 (rpU s_)), (2, .orow 54 (rpP s_))] }
  | _ => none
noncomputable def rpaC : Con := conS [.sc .str] rpaS
theorem rpa_ok : ConOK Try.prog 8 rpaC := by
  refine fn_obS tt_ok mixed Try.func8 rfl (fun _ _ => by kernel_rfl) (A := fun ds => ⟨fun _ => Cons.of [(15, rlxC), (17, wchC), (18, wnaC), (20, wnuC), (19, wmuC), (16, wiqC), (22, wfaC), (21, (wstC wtX 1000001))], fun k => match k, ds with | 6, [.s s_] => some { ι := D × Rd, pre := fun _ q => rdOK (paW s_) q.2.nx /\ (seqA (wkG kwC (paW s_)) (wyF0 (paW s_) ((s_.size : Nat) : Int)) (paW s_) q.1 q.2 = (wyC (paW s_) ((s_.size : Nat) : Int) (mR 0 0 0))) /\ q.1.len + left (paW s_) q.2 <= 1000001, μ := fun q => left (paW s_) q.2, st := fun s q => famN s [] [0, 2, 3, 4, 8, 9] [(idOf s 8, .own 71 ([.c (.rows 123 (paW s_)), .c (.int .i64 (.sym ((q.2).nx))), .c (.int .i64 (.sym (s_.size : Nat))), .c (.int .i64 (.sym ((q.2).er))), .c (.int .i64 (.sym ((q.2).pa)))])), (idOf s 9, .own 34 ([.c (.osl 73 s.nx (.lit 0) (.sym (q.1.len))), .c .nils, .c .nils])), (s.nx, .orow 73 (q.1))] [2] } | 9, [.s s_] => some { ι := D × Rd, pre := fun _ q => rdOK (paW s_) q.2.nx /\ (seqA (wkG kwU (paW s_)) (wyF1 (paW s_) ((s_.size : Nat) : Int)) (paW s_) q.1 q.2 = (wyU (paW s_) ((s_.size : Nat) : Int) (mR 0 0 0))) /\ q.1.len + left (paW s_) q.2 <= 1000001, μ := fun q => left (paW s_) q.2, st := fun s q => famN s [] [0, 2, 3, 4, 8, 9] [(idOf s 8, .own 71 ([.c (.rows 123 (paW s_)), .c (.int .i64 (.sym ((q.2).nx))), .c (.int .i64 (.sym (s_.size : Nat))), .c (.int .i64 (.sym ((q.2).er))), .c (.int .i64 (.sym ((q.2).pa)))])), (idOf s 9, .own 34 ([.c (.osl 73 (cellIdP s 9 0) (.lit 0) (.sym ((wyC (paW s_) ((s_.size : Nat) : Int) (mR 0 0 0)).1.len))), .c (.osl 78 s.nx (.lit 0) (.sym (q.1.len))), .c .nils])), (cellIdP s 9 0, .orow 73 ((wyC (paW s_) ((s_.size : Nat) : Int) (mR 0 0 0)).1)), (s.nx, .orow 78 (q.1))] [2] } | 13, [.s s_] => some { ι := D × Rd, pre := fun s q => rdOK (paW s_) q.2.nx /\ (seqE (wmG (paW s_)) (wuF (paW s_) ((s_.size : Nat) : Int)) (paW s_) q.1 q.2 = seqE (wmG (paW s_)) (wuF (paW s_) ((s_.size : Nat) : Int)) (paW s_) (.l []) (mR (cellZ s 8 1) (cellZ s 8 4) (cellZ s 8 3))) /\ q.1.len + lfm (paW s_) q.2 <= 1000002, μ := fun q => lfm (paW s_) q.2, st := fun s q => famD s [] [0, 2, 3, 4, 8, 9, 10] [(idOf s 8, .own 71 ([.c (.rows 123 (paW s_)), .c (.int .i64 (.sym ((q.2).nx))), .c (.int .i64 (.sym (s_.size : Nat))), .c (.int .i64 (.sym ((q.2).er))), .c (.int .i64 (.sym ((q.2).pa)))])), (idOf s 10, .own 78 ([.c (.raw (.string (cellS s 10 0))), .c (.osl 81 s.nx (.lit 0) (.sym (q.1.len)))])), (s.nx, .orow 81 (q.1))] [idOf s 8, idOf s 10] } | 22, [.s s_] => some { ι := D × Rd, pre := fun _ q => rdOK (paW s_) q.2.nx /\ (seqA (wkG kwP (paW s_)) (wyF2 (paW s_) ((s_.size : Nat) : Int)) (paW s_) q.1 q.2 = (wyP (paW s_) ((s_.size : Nat) : Int) (mR 0 0 0))) /\ q.1.len + left (paW s_) q.2 <= 1000001, μ := fun q => left (paW s_) q.2, st := fun s q => famN s [] [0, 2, 3, 4, 8, 9] [(idOf s 8, .own 71 ([.c (.rows 123 (paW s_)), .c (.int .i64 (.sym ((q.2).nx))), .c (.int .i64 (.sym (s_.size : Nat))), .c (.int .i64 (.sym ((q.2).er))), .c (.int .i64 (.sym ((q.2).pa)))])), (idOf s 9, .own 34 ([.c (.osl 73 (cellIdP s 9 0) (.lit 0) (.sym ((wyC (paW s_) ((s_.size : Nat) : Int) (mR 0 0 0)).1.len))), .c (.osl 78 (cellIdP s 9 1) (.lit 0) (.sym ((wyU (paW s_) ((s_.size : Nat) : Int) (mR 0 0 0)).1.len))), .c (.osl 54 s.nx (.lit 0) (.sym (q.1.len)))])), (cellIdP s 9 0, .orow 73 ((wyC (paW s_) ((s_.size : Nat) : Int) (mR 0 0 0)).1)), (cellIdP s 9 1, .orow 78 ((wyU (paW s_) ((s_.size : Nat) : Int) (mR 0 0 0)).1)), (s.nx, .orow 54 (q.1))] [2] } | 26, [.s s_] => some { ι := D × Rd, pre := fun s q => rdOK (paW s_) q.2.nx /\ (seqA (wkG kwV (paW s_)) (wvF (paW s_) ((s_.size : Nat) : Int)) (paW s_) q.1 q.2 = seqA (wkG kwV (paW s_)) (wvF (paW s_) ((s_.size : Nat) : Int)) (paW s_) (.l []) (mR (cellZ s 8 1) (cellZ s 8 4) (cellZ s 8 3))) /\ q.1.len + left (paW s_) q.2 <= 1000001, μ := fun q => left (paW s_) q.2, st := fun s q => famD s [] [0, 2, 3, 4, 8, 9, 12] [(idOf s 8, .own 71 ([.c (.rows 123 (paW s_)), .c (.int .i64 (.sym ((q.2).nx))), .c (.int .i64 (.sym (s_.size : Nat))), .c (.int .i64 (.sym ((q.2).er))), .c (.int .i64 (.sym ((q.2).pa)))])), (idOf s 12, .own 54 ([.c (.raw (.string (cellS s 12 0))), .c (.osl 9 s.nx (.lit 0) (.sym (q.1.len))), .c .nils])), (s.nx, .orow 9 (q.1))] [idOf s 8, idOf s 12] } | _, _ => none, fun _ => none⟩) (fun _ _ => (cons_cons rlx_ok (cons_cons wch_ok (cons_cons wna_ok (cons_cons wnu_ok (cons_cons wmu_ok (cons_cons wiq_ok (cons_cons wfa_ok (cons_cons wtX_ok cons_nil))))))))) (by kernel_rfl) ?_
  intro ds
  unfold rpaS
  split
  · rename_i s_
    refine kmp (q := s_.size <= 2147483647 -> s_.size <= 2147483647 /\ (((lexR s_).snd.snd != (0 : Int)) = true -> (rpC s_).len = 0 /\ (rpU s_).len = 0 /\ (rpP s_).len = 0 /\ (↑(lexR s_).snd.fst : Int) = rpA s_ /\ (lexR s_).snd.snd = rpE s_ /\ (rpC s_).rows = [] /\ (rpU s_).rows = [] /\ (rpP s_).rows = []) /\ (((lexR s_).snd.snd != (0 : Int)) = false -> (∃ (i : D × Rd), (rdOK (paW s_) i.snd.nx /\ seqA (wkG kwC (paW s_)) (wyF0 (paW s_) (en9 s_)) (paW s_) i.fst i.snd = wyC (paW s_) (en9 s_) (mR 0 0 0) /\ i.fst.len + left (paW s_) i.snd <= (1000001 : Nat)) /\ Value.string s_ = Value.string s_ /\ (0 : Int) = (0 : Int) /\ (0 : Int) = (0 : Int) /\ List.map tokR (lexR s_).fst = List.map tokR (lexR s_).fst /\ (0 : Int) = i.snd.nx /\ (en9 s_) = (en9 s_) /\ (0 : Int) = i.snd.er /\ (0 : Int) = i.snd.pa /\ i.fst.len = 0 /\ i.fst.rows = []) /\ ∀ (i : D × Rd), rdOK (paW s_) i.snd.nx /\ seqA (wkG kwC (paW s_)) (wyF0 (paW s_) (en9 s_)) (paW s_) i.fst i.snd = wyC (paW s_) (en9 s_) (mR 0 0 0) /\ i.fst.len + left (paW s_) i.snd <= 1000001 -> rdOK (paW s_) i.snd.nx /\ (isB (paW s_) kwC i.snd = true -> rdOK (paW s_) (IntKind.i64.wrap (i.snd.nx + 1)) /\ 0 + (wkZ (paW s_) (en9 s_) (gw i.snd)).tg.len <= (wkZ (paW s_) (en9 s_) (gw i.snd)).tg.len /\ i.fst.len = i.fst.len /\ (i.fst.len + ((D.l [(rax0 s_ i)]).sub 0 ((0 : Nat) + (1 : Nat))).len) * 88 <= 140737488355328 /\ 0 + 1 <= (D.l [(rax0 s_ i)]).len /\ ∃ (j : D × Rd), (rdOK (paW s_) j.snd.nx /\ seqA (wkG kwC (paW s_)) (wyF0 (paW s_) (en9 s_)) (paW s_) j.fst j.snd = wyC (paW s_) (en9 s_) (mR 0 0 0) /\ j.fst.len + left (paW s_) j.snd <= (1000001 : Nat)) /\ left (paW s_) j.snd < left (paW s_) i.snd /\ Value.string s_ = Value.string s_ /\ (0 : Int) = (0 : Int) /\ (0 : Int) = (0 : Int) /\ List.map tokR (lexR s_).fst = List.map tokR (lexR s_).fst /\ (wkR (paW s_) (en9 s_) (gw i.snd)).nx = j.snd.nx /\ (en9 s_) = (en9 s_) /\ (wkR (paW s_) (en9 s_) (gw i.snd)).er = j.snd.er /\ (wkR (paW s_) (en9 s_) (gw i.snd)).pa = j.snd.pa /\ i.fst.len + ((D.l [(rax0 s_ i)]).sub 0 ((0 : Nat) + (1 : Nat))).len = j.fst.len /\ i.fst.rows ++ List.drop 0 (List.take ((0 : Nat) + (1 : Nat)) [(rax0 s_ i)]) = j.fst.rows) /\ (isB (paW s_) kwC i.snd = false -> (∃ (i_1 : D × Rd), (rdOK (paW s_) i_1.snd.nx /\ seqA (wkG kwU (paW s_)) (wyF1 (paW s_) (en9 s_)) (paW s_) i_1.fst i_1.snd = wyU (paW s_) (en9 s_) (mR 0 0 0) /\ i_1.fst.len + left (paW s_) i_1.snd <= (1000001 : Nat)) /\ Value.string s_ = Value.string s_ /\ (0 : Int) = (0 : Int) /\ (0 : Int) = (0 : Int) /\ List.map tokR (lexR s_).fst = List.map tokR (lexR s_).fst /\ i.snd.nx = i_1.snd.nx /\ (en9 s_) = (en9 s_) /\ i.snd.er = i_1.snd.er /\ i.snd.pa = i_1.snd.pa /\ i.fst.len = (wyC (paW s_) (en9 s_) (mR 0 0 0)).fst.len /\ i_1.fst.len = 0 /\ i.fst.rows = (wyC (paW s_) (en9 s_) (mR 0 0 0)).fst.rows /\ i_1.fst.rows = []) /\ ∀ (i : D × Rd), rdOK (paW s_) i.snd.nx /\ seqA (wkG kwU (paW s_)) (wyF1 (paW s_) (en9 s_)) (paW s_) i.fst i.snd = wyU (paW s_) (en9 s_) (mR 0 0 0) /\ i.fst.len + left (paW s_) i.snd <= 1000001 -> rdOK (paW s_) i.snd.nx /\ (isB (paW s_) kwU i.snd = true -> rdOK (paW s_) (IntKind.i64.wrap (i.snd.nx + 1)) /\ rdOK (paW s_) (wnR (paW s_) (en9 s_) (1 : Int) (gw i.snd)).nx /\ (∃ (i_1 : D × Rd), (rdOK (paW s_) i_1.snd.nx /\ seqE (wmG (paW s_)) (wuF (paW s_) (en9 s_)) (paW s_) i_1.fst i_1.snd = seqE (wmG (paW s_)) (wuF (paW s_) (en9 s_)) (paW s_) (D.l []) (muR (paW s_) (en9 s_) obB (wnR (paW s_) (en9 s_) (1 : Int) (gw i.snd))) /\ i_1.fst.len + lfm (paW s_) i_1.snd <= (1000002 : Nat)) /\ Value.string s_ = Value.string s_ /\ (0 : Int) = (0 : Int) /\ (0 : Int) = (0 : Int) /\ List.map tokR (lexR s_).fst = List.map tokR (lexR s_).fst /\ (muR (paW s_) (en9 s_) obB (wnR (paW s_) (en9 s_) (1 : Int) (gw i.snd))).nx = i_1.snd.nx /\ (en9 s_) = (en9 s_) /\ (muR (paW s_) (en9 s_) obB (wnR (paW s_) (en9 s_) (1 : Int) (gw i.snd))).er = i_1.snd.er /\ (muR (paW s_) (en9 s_) obB (wnR (paW s_) (en9 s_) (1 : Int) (gw i.snd))).pa = i_1.snd.pa /\ Value.string (wnS (paW s_) (gw i.snd)) = Value.string (wnS (paW s_) (gw i.snd)) /\ i_1.fst.len = 0 /\ i_1.fst.rows = [] /\ (wyC (paW s_) (en9 s_) (mR 0 0 0)).fst.len = (wyC (paW s_) (en9 s_) (mR 0 0 0)).fst.len /\ i.fst.len = i.fst.len /\ (wyC (paW s_) (en9 s_) (mR 0 0 0)).fst.rows = (wyC (paW s_) (en9 s_) (mR 0 0 0)).fst.rows /\ i.fst.rows = i.fst.rows) /\ ∀ (i_1 : D × Rd), rdOK (paW s_) i_1.snd.nx /\ seqE (wmG (paW s_)) (wuF (paW s_) (en9 s_)) (paW s_) i_1.fst i_1.snd = seqE (wmG (paW s_)) (wuF (paW s_) (en9 s_)) (paW s_) (D.l []) (muR (paW s_) (en9 s_) obB (wnR (paW s_) (en9 s_) (1 : Int) (gw i.snd))) /\ i_1.fst.len + lfm (paW s_) i_1.snd <= 1000002 -> ((i_1.snd.er == (0 : Int)) = true /\ True -> rdOK (paW s_) i_1.snd.nx) /\ ((i_1.snd.er == (0 : Int) && !isB (paW s_) cbB i_1.snd) = true -> rdOK (paW s_) i_1.snd.nx /\ rdOK (paW s_) (wnR (paW s_) (en9 s_) (2 : Int) i_1.snd).nx /\ rdOK (paW s_) (wnR (paW s_) (en9 s_) (1 : Int) (wnR (paW s_) (en9 s_) (2 : Int) i_1.snd)).nx /\ rdOK (paW s_) (wnR (paW s_) (en9 s_) (2 : Int) (wnR (paW s_) (en9 s_) (1 : Int) (wnR (paW s_) (en9 s_) (2 : Int) i_1.snd))).nx /\ i_1.fst.len = i_1.fst.len /\ (i_1.fst.len + ((D.l [(rax2 s_ i_1)]).sub 0 ((0 : Nat) + (1 : Nat))).len) * 32 <= 140737488355328 /\ 0 + 1 <= (D.l [(rax2 s_ i_1)]).len /\ ∃ (j : D × Rd), (rdOK (paW s_) j.snd.nx /\ seqE (wmG (paW s_)) (wuF (paW s_) (en9 s_)) (paW s_) j.fst j.snd = seqE (wmG (paW s_)) (wuF (paW s_) (en9 s_)) (paW s_) (D.l []) (muR (paW s_) (en9 s_) obB (wnR (paW s_) (en9 s_) (1 : Int) (gw i.snd))) /\ j.fst.len + lfm (paW s_) j.snd <= (1000002 : Nat)) /\ lfm (paW s_) j.snd < lfm (paW s_) i_1.snd /\ Value.string s_ = Value.string s_ /\ (0 : Int) = (0 : Int) /\ (0 : Int) = (0 : Int) /\ List.map tokR (lexR s_).fst = List.map tokR (lexR s_).fst /\ (muR (paW s_) (en9 s_) seB (wnR (paW s_) (en9 s_) (2 : Int) (wnR (paW s_) (en9 s_) (1 : Int) (wnR (paW s_) (en9 s_) (2 : Int) i_1.snd)))).nx = j.snd.nx /\ (en9 s_) = (en9 s_) /\ (muR (paW s_) (en9 s_) seB (wnR (paW s_) (en9 s_) (2 : Int) (wnR (paW s_) (en9 s_) (1 : Int) (wnR (paW s_) (en9 s_) (2 : Int) i_1.snd)))).er = j.snd.er /\ (muR (paW s_) (en9 s_) seB (wnR (paW s_) (en9 s_) (2 : Int) (wnR (paW s_) (en9 s_) (1 : Int) (wnR (paW s_) (en9 s_) (2 : Int) i_1.snd)))).pa = j.snd.pa /\ Value.string (wnS (paW s_) (gw i.snd)) = Value.string (wnS (paW s_) (gw i.snd)) /\ i_1.fst.len + ((D.l [(rax2 s_ i_1)]).sub 0 ((0 : Nat) + (1 : Nat))).len = j.fst.len /\ i_1.fst.rows ++ List.drop 0 (List.take ((0 : Nat) + (1 : Nat)) [(rax2 s_ i_1)]) = j.fst.rows /\ (wyC (paW s_) (en9 s_) (mR 0 0 0)).fst.len = (wyC (paW s_) (en9 s_) (mR 0 0 0)).fst.len /\ i.fst.len = i.fst.len /\ (wyC (paW s_) (en9 s_) (mR 0 0 0)).fst.rows = (wyC (paW s_) (en9 s_) (mR 0 0 0)).fst.rows /\ i.fst.rows = i.fst.rows) /\ ((i_1.snd.er == (0 : Int) && !isB (paW s_) cbB i_1.snd) = false -> rdOK (paW s_) i_1.snd.nx /\ 0 + i_1.fst.len <= i_1.fst.len /\ i.fst.len = i.fst.len /\ (i.fst.len + ((D.l [[D.s (wnS (paW s_) (gw i.snd)), i_1.fst.sub 0 ((0 : Nat) + i_1.fst.len)]]).sub 0 ((0 : Nat) + (1 : Nat))).len) * 40 <= 140737488355328 /\ 0 + 1 <= (D.l [[D.s (wnS (paW s_) (gw i.snd)), i_1.fst.sub 0 ((0 : Nat) + i_1.fst.len)]]).len /\ ∃ (j : D × Rd), (rdOK (paW s_) j.snd.nx /\ seqA (wkG kwU (paW s_)) (wyF1 (paW s_) (en9 s_)) (paW s_) j.fst j.snd = wyU (paW s_) (en9 s_) (mR 0 0 0) /\ j.fst.len + left (paW s_) j.snd <= (1000001 : Nat)) /\ left (paW s_) j.snd < left (paW s_) i.snd /\ Value.string s_ = Value.string s_ /\ (0 : Int) = (0 : Int) /\ (0 : Int) = (0 : Int) /\ List.map tokR (lexR s_).fst = List.map tokR (lexR s_).fst /\ (muR (paW s_) (en9 s_) cbB i_1.snd).nx = j.snd.nx /\ (en9 s_) = (en9 s_) /\ (muR (paW s_) (en9 s_) cbB i_1.snd).er = j.snd.er /\ (muR (paW s_) (en9 s_) cbB i_1.snd).pa = j.snd.pa /\ (wyC (paW s_) (en9 s_) (mR 0 0 0)).fst.len = (wyC (paW s_) (en9 s_) (mR 0 0 0)).fst.len /\ i.fst.len + ((D.l [[D.s (wnS (paW s_) (gw i.snd)), i_1.fst.sub 0 ((0 : Nat) + i_1.fst.len)]]).sub 0 ((0 : Nat) + (1 : Nat))).len = j.fst.len /\ (wyC (paW s_) (en9 s_) (mR 0 0 0)).fst.rows = (wyC (paW s_) (en9 s_) (mR 0 0 0)).fst.rows /\ i.fst.rows ++ List.drop 0 (List.take ((0 : Nat) + (1 : Nat)) [[D.s (wnS (paW s_) (gw i.snd)), i_1.fst.sub 0 ((0 : Nat) + i_1.fst.len)]]) = j.fst.rows)) /\ (isB (paW s_) kwU i.snd = false -> (∃ (i_1 : D × Rd), (rdOK (paW s_) i_1.snd.nx /\ seqA (wkG kwP (paW s_)) (wyF2 (paW s_) (en9 s_)) (paW s_) i_1.fst i_1.snd = wyP (paW s_) (en9 s_) (mR 0 0 0) /\ i_1.fst.len + left (paW s_) i_1.snd <= (1000001 : Nat)) /\ Value.string s_ = Value.string s_ /\ (0 : Int) = (0 : Int) /\ (0 : Int) = (0 : Int) /\ List.map tokR (lexR s_).fst = List.map tokR (lexR s_).fst /\ i.snd.nx = i_1.snd.nx /\ (en9 s_) = (en9 s_) /\ i.snd.er = i_1.snd.er /\ i.snd.pa = i_1.snd.pa /\ (wyC (paW s_) (en9 s_) (mR 0 0 0)).fst.len = (wyC (paW s_) (en9 s_) (mR 0 0 0)).fst.len /\ i.fst.len = (wyU (paW s_) (en9 s_) (mR 0 0 0)).fst.len /\ i_1.fst.len = 0 /\ (wyC (paW s_) (en9 s_) (mR 0 0 0)).fst.rows = (wyC (paW s_) (en9 s_) (mR 0 0 0)).fst.rows /\ i.fst.rows = (wyU (paW s_) (en9 s_) (mR 0 0 0)).fst.rows /\ i_1.fst.rows = []) /\ ∀ (i : D × Rd), rdOK (paW s_) i.snd.nx /\ seqA (wkG kwP (paW s_)) (wyF2 (paW s_) (en9 s_)) (paW s_) i.fst i.snd = wyP (paW s_) (en9 s_) (mR 0 0 0) /\ i.fst.len + left (paW s_) i.snd <= 1000001 -> rdOK (paW s_) i.snd.nx /\ (isB (paW s_) kwP i.snd = true -> rdOK (paW s_) (IntKind.i64.wrap (i.snd.nx + 1)) /\ rdOK (paW s_) (wnR (paW s_) (en9 s_) (1 : Int) (gw i.snd)).nx /\ (∃ (i_1 : D × Rd), (rdOK (paW s_) i_1.snd.nx /\ seqA (wkG kwV (paW s_)) (wvF (paW s_) (en9 s_)) (paW s_) i_1.fst i_1.snd = seqA (wkG kwV (paW s_)) (wvF (paW s_) (en9 s_)) (paW s_) (D.l []) (muR (paW s_) (en9 s_) obB (wnR (paW s_) (en9 s_) (1 : Int) (gw i.snd))) /\ i_1.fst.len + left (paW s_) i_1.snd <= (1000001 : Nat)) /\ Value.string s_ = Value.string s_ /\ (0 : Int) = (0 : Int) /\ (0 : Int) = (0 : Int) /\ List.map tokR (lexR s_).fst = List.map tokR (lexR s_).fst /\ (muR (paW s_) (en9 s_) obB (wnR (paW s_) (en9 s_) (1 : Int) (gw i.snd))).nx = i_1.snd.nx /\ (en9 s_) = (en9 s_) /\ (muR (paW s_) (en9 s_) obB (wnR (paW s_) (en9 s_) (1 : Int) (gw i.snd))).er = i_1.snd.er /\ (muR (paW s_) (en9 s_) obB (wnR (paW s_) (en9 s_) (1 : Int) (gw i.snd))).pa = i_1.snd.pa /\ Value.string (wnS (paW s_) (gw i.snd)) = Value.string (wnS (paW s_) (gw i.snd)) /\ i_1.fst.len = 0 /\ i_1.fst.rows = [] /\ (wyC (paW s_) (en9 s_) (mR 0 0 0)).fst.len = (wyC (paW s_) (en9 s_) (mR 0 0 0)).fst.len /\ (wyU (paW s_) (en9 s_) (mR 0 0 0)).fst.len = (wyU (paW s_) (en9 s_) (mR 0 0 0)).fst.len /\ i.fst.len = i.fst.len /\ (wyC (paW s_) (en9 s_) (mR 0 0 0)).fst.rows = (wyC (paW s_) (en9 s_) (mR 0 0 0)).fst.rows /\ (wyU (paW s_) (en9 s_) (mR 0 0 0)).fst.rows = (wyU (paW s_) (en9 s_) (mR 0 0 0)).fst.rows /\ i.fst.rows = i.fst.rows) /\ ∀ (i_1 : D × Rd), rdOK (paW s_) i_1.snd.nx /\ seqA (wkG kwV (paW s_)) (wvF (paW s_) (en9 s_)) (paW s_) i_1.fst i_1.snd = seqA (wkG kwV (paW s_)) (wvF (paW s_) (en9 s_)) (paW s_) (D.l []) (muR (paW s_) (en9 s_) obB (wnR (paW s_) (en9 s_) (1 : Int) (gw i.snd))) /\ i_1.fst.len + left (paW s_) i_1.snd <= 1000001 -> rdOK (paW s_) i_1.snd.nx /\ (isB (paW s_) kwV i_1.snd = true -> rdOK (paW s_) (IntKind.i64.wrap (i_1.snd.nx + 1)) /\ i_1.fst.len = i_1.fst.len /\ (i_1.fst.len + ((D.l [[D.s (wnS (paW s_) (gw i_1.snd))]]).sub 0 ((0 : Nat) + (1 : Nat))).len) * 16 <= 140737488355328 /\ 0 + 1 <= (D.l [[D.s (wnS (paW s_) (gw i_1.snd))]]).len /\ rdOK (paW s_) (wnR (paW s_) (en9 s_) (1 : Int) (gw i_1.snd)).nx /\ ∃ (j : D × Rd), (rdOK (paW s_) j.snd.nx /\ seqA (wkG kwV (paW s_)) (wvF (paW s_) (en9 s_)) (paW s_) j.fst j.snd = seqA (wkG kwV (paW s_)) (wvF (paW s_) (en9 s_)) (paW s_) (D.l []) (muR (paW s_) (en9 s_) obB (wnR (paW s_) (en9 s_) (1 : Int) (gw i.snd))) /\ j.fst.len + left (paW s_) j.snd <= (1000001 : Nat)) /\ left (paW s_) j.snd < left (paW s_) i_1.snd /\ Value.string s_ = Value.string s_ /\ (0 : Int) = (0 : Int) /\ (0 : Int) = (0 : Int) /\ List.map tokR (lexR s_).fst = List.map tokR (lexR s_).fst /\ (muR (paW s_) (en9 s_) seB (wnR (paW s_) (en9 s_) (1 : Int) (gw i_1.snd))).nx = j.snd.nx /\ (en9 s_) = (en9 s_) /\ (muR (paW s_) (en9 s_) seB (wnR (paW s_) (en9 s_) (1 : Int) (gw i_1.snd))).er = j.snd.er /\ (muR (paW s_) (en9 s_) seB (wnR (paW s_) (en9 s_) (1 : Int) (gw i_1.snd))).pa = j.snd.pa /\ Value.string (wnS (paW s_) (gw i.snd)) = Value.string (wnS (paW s_) (gw i.snd)) /\ i_1.fst.len + ((D.l [[D.s (wnS (paW s_) (gw i_1.snd))]]).sub 0 ((0 : Nat) + (1 : Nat))).len = j.fst.len /\ i_1.fst.rows ++ List.drop 0 (List.take ((0 : Nat) + (1 : Nat)) [[D.s (wnS (paW s_) (gw i_1.snd))]]) = j.fst.rows /\ (wyC (paW s_) (en9 s_) (mR 0 0 0)).fst.len = (wyC (paW s_) (en9 s_) (mR 0 0 0)).fst.len /\ (wyU (paW s_) (en9 s_) (mR 0 0 0)).fst.len = (wyU (paW s_) (en9 s_) (mR 0 0 0)).fst.len /\ i.fst.len = i.fst.len /\ (wyC (paW s_) (en9 s_) (mR 0 0 0)).fst.rows = (wyC (paW s_) (en9 s_) (mR 0 0 0)).fst.rows /\ (wyU (paW s_) (en9 s_) (mR 0 0 0)).fst.rows = (wyU (paW s_) (en9 s_) (mR 0 0 0)).fst.rows /\ i.fst.rows = i.fst.rows) /\ (isB (paW s_) kwV i_1.snd = false -> rdOK (paW s_) i_1.snd.nx /\ dpOK (paW s_) i_1.snd (0 : Int) /\ left (paW s_) i_1.snd < 1000001 /\ rdOK (paW s_) (wtX (en9 s_) (paW s_) (0 : Int) i_1.snd).snd.nx /\ 0 + i_1.fst.len <= i_1.fst.len /\ 0 + (wtX (en9 s_) (paW s_) (0 : Int) i_1.snd).fst.len <= (wtX (en9 s_) (paW s_) (0 : Int) i_1.snd).fst.len /\ i.fst.len = i.fst.len /\ (i.fst.len + ((D.l [(rax1 s_ i i_1)]).sub 0 ((0 : Nat) + (1 : Nat))).len) * 64 <= 140737488355328 /\ 0 + 1 <= (D.l [(rax1 s_ i i_1)]).len /\ ∃ (j : D × Rd), (rdOK (paW s_) j.snd.nx /\ seqA (wkG kwP (paW s_)) (wyF2 (paW s_) (en9 s_)) (paW s_) j.fst j.snd = wyP (paW s_) (en9 s_) (mR 0 0 0) /\ j.fst.len + left (paW s_) j.snd <= (1000001 : Nat)) /\ left (paW s_) j.snd < left (paW s_) i.snd /\ Value.string s_ = Value.string s_ /\ (0 : Int) = (0 : Int) /\ (0 : Int) = (0 : Int) /\ List.map tokR (lexR s_).fst = List.map tokR (lexR s_).fst /\ (muR (paW s_) (en9 s_) cbB (wtX (en9 s_) (paW s_) (0 : Int) i_1.snd).snd).nx = j.snd.nx /\ (en9 s_) = (en9 s_) /\ (muR (paW s_) (en9 s_) cbB (wtX (en9 s_) (paW s_) (0 : Int) i_1.snd).snd).er = j.snd.er /\ (muR (paW s_) (en9 s_) cbB (wtX (en9 s_) (paW s_) (0 : Int) i_1.snd).snd).pa = j.snd.pa /\ (wyC (paW s_) (en9 s_) (mR 0 0 0)).fst.len = (wyC (paW s_) (en9 s_) (mR 0 0 0)).fst.len /\ (wyU (paW s_) (en9 s_) (mR 0 0 0)).fst.len = (wyU (paW s_) (en9 s_) (mR 0 0 0)).fst.len /\ i.fst.len + ((D.l [(rax1 s_ i i_1)]).sub 0 ((0 : Nat) + (1 : Nat))).len = j.fst.len /\ (wyC (paW s_) (en9 s_) (mR 0 0 0)).fst.rows = (wyC (paW s_) (en9 s_) (mR 0 0 0)).fst.rows /\ (wyU (paW s_) (en9 s_) (mR 0 0 0)).fst.rows = (wyU (paW s_) (en9 s_) (mR 0 0 0)).fst.rows /\ i.fst.rows ++ List.drop 0 (List.take ((0 : Nat) + (1 : Nat)) [(rax1 s_ i i_1)]) = j.fst.rows)) /\ (isB (paW s_) kwP i.snd = false -> (decide (i.snd.nx < (↑(paW s_).len : Int)) = true -> rdOK (paW s_) i.snd.nx /\ (((ffR (paW s_) (en9 s_) (5 : Int) i.snd).er != (0 : Int)) = true -> (rpC s_).len = 0 /\ (rpU s_).len = 0 /\ (rpP s_).len = 0 /\ (ffR (paW s_) (en9 s_) (5 : Int) i.snd).pa = rpA s_ /\ (ffR (paW s_) (en9 s_) (5 : Int) i.snd).er = rpE s_ /\ (rpC s_).rows = [] /\ (rpU s_).rows = [] /\ (rpP s_).rows = []) /\ (((ffR (paW s_) (en9 s_) (5 : Int) i.snd).er != (0 : Int)) = false -> (wyC (paW s_) (en9 s_) (mR 0 0 0)).fst.len = (rpC s_).len /\ (wyU (paW s_) (en9 s_) (mR 0 0 0)).fst.len = (rpU s_).len /\ i.fst.len = (rpP s_).len /\ (0 : Int) = rpA s_ /\ (0 : Int) = rpE s_ /\ (wyC (paW s_) (en9 s_) (mR 0 0 0)).fst.rows = (rpC s_).rows /\ (wyU (paW s_) (en9 s_) (mR 0 0 0)).fst.rows = (rpU s_).rows /\ i.fst.rows = (rpP s_).rows)) /\ (decide (i.snd.nx < (↑(paW s_).len : Int)) = false -> ((i.snd.er != (0 : Int)) = true -> (rpC s_).len = 0 /\ (rpU s_).len = 0 /\ (rpP s_).len = 0 /\ i.snd.pa = rpA s_ /\ i.snd.er = rpE s_ /\ (rpC s_).rows = [] /\ (rpU s_).rows = [] /\ (rpP s_).rows = []) /\ ((i.snd.er != (0 : Int)) = false -> (wyC (paW s_) (en9 s_) (mR 0 0 0)).fst.len = (rpC s_).len /\ (wyU (paW s_) (en9 s_) (mR 0 0 0)).fst.len = (rpU s_).len /\ i.fst.len = (rpP s_).len /\ (0 : Int) = rpA s_ /\ (0 : Int) = rpE s_ /\ (wyC (paW s_) (en9 s_) (mR 0 0 0)).fst.rows = (rpC s_).rows /\ (wyU (paW s_) (en9 s_) (mR 0 0 0)).fst.rows = (rpU s_).rows /\ i.fst.rows = (rpP s_).rows))))))) (by kernel_rfl) ?_
    delta rax0 rax1 rax2
    intro h
    unfold en9
    have g0 := paW_ok s_
    obtain ⟨ua, ub, uc⟩ := wy_up ((s_.size : Nat) : Int) (r := mR 0 0 0) g0
    refine ⟨h, fun hl => ?_, fun hl => ?_⟩
    · obtain ⟨a1, a2, a3, a4, a5⟩ := rp_lex (ne_of_bne hl)
      rw [a1, a2, a3, a4, a5]
      (repeat' (with_reducible apply And.intro)) <;> first | with_reducible rfl | exact True.intro | assumption | (symm; assumption) | rfl
    have hl := of_not_bne hl
    refine ⟨⟨(.l [], (mR 0 0 0)), ⟨g0, rfl, (by show 0 + left (paW s_) (mR 0 0 0) <= 1000001; have := (lf_lt (r := (mR 0 0 0)) g0).2; omega)⟩, (by (repeat' (with_reducible apply And.intro)) <;> first | with_reducible rfl | exact True.intro | assumption | (symm; assumption) | rfl)⟩, ?_⟩
    rintro q ⟨h1, h2, h3⟩
    refine ⟨h1, fun hc => ?_, fun hc => ?_⟩
    · have hlt := (isB_lt hc).2
      rw [gw_eq h1 hlt, nx1 h1 hlt]
      have g1 := (gx_up h1 hlt).1
      have hg : wkG kwC (paW s_) q.2 = true := hc
      obtain ⟨u1, u2⟩ := (wy0_sq ((s_.size : Nat) : Int)).up q.2 h1 hg
      have u3 := lt_left u1 h1 u2
      have hs := seq_step (wy0_sq ((s_.size : Nat) : Int)) (d := q.1) h1 hg
      have hz : (q.1.len + 1) * 88 <= 140737488355328 := by omega
      have hl : (D.l (q.1.rows ++ [(wyF0 (paW s_) ((s_.size : Nat) : Int) q.2).1])).len + left (paW s_) (wyF0 (paW s_) ((s_.size : Nat) : Int) q.2).2 <= 1000001 := by rw [ap_len]; omega
      refine ⟨g1, Nat.le_of_eq (Nat.zero_add _), rfl, hz, Nat.le_refl 1, (.l (q.1.rows ++ [(wyF0 (paW s_) ((s_.size : Nat) : Int) q.2).1]), (wyF0 (paW s_) ((s_.size : Nat) : Int) q.2).2), ⟨u1, hs.trans h2, hl⟩, u3, ?_⟩
      simp only [subAll]
      (repeat' (with_reducible apply And.intro)) <;> first | with_reducible rfl | exact True.intro | exact (ap_len _ _).symm | rfl
    have hg : wkG kwC (paW s_) q.2 = false := hc
    have h2 : (q.1, q.2) = wyC (paW s_) ((s_.size : Nat) : Int) (mR 0 0 0) := (seq_end hg).symm.trans h2
    refine ⟨⟨(.l [], q.2), ⟨h1, (by unfold wyU; rw [← h2]), (by show 0 + left (paW s_) q.2 <= 1000001; have := (lf_lt (r := q.2) h1).2; omega)⟩, (by rw [← h2]; (repeat' (with_reducible apply And.intro)) <;> first | with_reducible rfl | exact True.intro | assumption | (symm; assumption) | rfl)⟩, ?_⟩
    rintro q ⟨h1, h2, h3⟩
    refine ⟨h1, fun hc => ?_, fun hc => ?_⟩
    · have hlt := (isB_lt hc).2
      rw [gw_eq h1 hlt, nx1 h1 hlt]
      have g1 := (gx_up h1 hlt).1
      have hg : wkG kwU (paW s_) q.2 = true := hc
      obtain ⟨u1, u2⟩ := (wy1_sq ((s_.size : Nat) : Int)).up q.2 h1 hg
      have u3 := lt_left u1 h1 u2
      have hs := seq_step (wy1_sq ((s_.size : Nat) : Int)) (d := q.1) h1 hg
      have hz : (q.1.len + 1) * 40 <= 140737488355328 := by omega
      have hl : (D.l (q.1.rows ++ [(wyF1 (paW s_) ((s_.size : Nat) : Int) q.2).1])).len + left (paW s_) (wyF1 (paW s_) ((s_.size : Nat) : Int) q.2).2 <= 1000001 := by rw [ap_len]; omega
      obtain ⟨b1, b2, b3, b4, b5⟩ := wuR_up ((s_.size : Nat) : Int) (r := gx q.2) g1
      refine ⟨g1, b1, ⟨(.l [], wuA (paW s_) ((s_.size : Nat) : Int) (gx q.2)), ⟨b2, rfl, (by show 0 + lfm (paW s_) (wuA (paW s_) ((s_.size : Nat) : Int) (gx q.2)) <= 1000002; have := lfm_le (paW s_) b2; omega)⟩, (by (repeat' (with_reducible apply And.intro)) <;> first | with_reducible rfl | exact True.intro | assumption | (symm; assumption) | rfl)⟩, ?_⟩
      rintro p ⟨p1, p2, p3⟩
      refine ⟨fun _ => p1, fun hk => ?_, fun hk => ?_⟩
      · have hm : wmG (paW s_) p.2 = true := hk
        obtain ⟨c1, c2, c3, c4, c5, c6⟩ := wu_up ((s_.size : Nat) : Int) p1
        have hs := se_step (wu_se ((s_.size : Nat) : Int)) (d := p.1) p1 hm
        obtain ⟨_, _, lt⟩ := (wu_se ((s_.size : Nat) : Int)).up p.2 p1 hm
        have hl3 : (D.l (p.1.rows ++ [(wuF (paW s_) ((s_.size : Nat) : Int) p.2).1])).len + lfm (paW s_) (wuF (paW s_) ((s_.size : Nat) : Int) p.2).2 <= 1000002 := by rw [ap_len]; omega
        refine ⟨p1, c1, c2, c3, rfl, (by show (p.1.len + 1) * 32 <= 140737488355328; omega), Nat.le_refl 1, (.l (p.1.rows ++ [(wuF (paW s_) ((s_.size : Nat) : Int) p.2).1]), (wuF (paW s_) ((s_.size : Nat) : Int) p.2).2), ⟨c4, hs.trans p2, hl3⟩, lt, ?_⟩
        (repeat' (with_reducible apply And.intro)) <;> first | with_reducible rfl | exact True.intro | exact (ap_len _ _).symm | rfl
      · have hm : wmG (paW s_) p.2 = false := hk
        have p2 : (p.1, p.2) = wuM (paW s_) ((s_.size : Nat) : Int) (gx q.2) := (se_end hm).symm.trans p2
        have eF : wyF1 (paW s_) ((s_.size : Nat) : Int) q.2 = ([.s (wnS (paW s_) (gx q.2)), .l p.1.rows], muR (paW s_) ((s_.size : Nat) : Int) cbB p.2) := by unfold wyF1 wuZ wuR Ru.row; rw [← p2]
        rw [eF] at u1 u3 hs hl
        refine ⟨p1, Nat.le_of_eq (Nat.zero_add _), rfl, hz, Nat.le_refl 1, (.l (q.1.rows ++ [[.s (wnS (paW s_) (gx q.2)), .l p.1.rows]]), muR (paW s_) ((s_.size : Nat) : Int) cbB p.2), ⟨u1, hs.trans h2, hl⟩, u3, ?_⟩
        simp only [subAll]
        (repeat' (with_reducible apply And.intro)) <;> first | with_reducible rfl | exact True.intro | exact (ap_len _ _).symm | rfl
    have hg : wkG kwU (paW s_) q.2 = false := hc
    have h2 : (q.1, q.2) = wyU (paW s_) ((s_.size : Nat) : Int) (mR 0 0 0) := (seq_end hg).symm.trans h2
    refine ⟨⟨(.l [], q.2), ⟨h1, (by unfold wyP; rw [← h2]), (by show 0 + left (paW s_) q.2 <= 1000001; have := (lf_lt (r := q.2) h1).2; omega)⟩, (by rw [← h2]; (repeat' (with_reducible apply And.intro)) <;> first | with_reducible rfl | exact True.intro | assumption | (symm; assumption) | rfl)⟩, ?_⟩
    rintro q ⟨h1, h2, h3⟩
    refine ⟨h1, fun hc => ?_, fun hc => ?_⟩
    · have hlt := (isB_lt hc).2
      rw [gw_eq h1 hlt, nx1 h1 hlt]
      have g1 := (gx_up h1 hlt).1
      have hg : wkG kwP (paW s_) q.2 = true := hc
      obtain ⟨u1, u2⟩ := (wy2_sq ((s_.size : Nat) : Int)).up q.2 h1 hg
      have u3 := lt_left u1 h1 u2
      have hs := seq_step (wy2_sq ((s_.size : Nat) : Int)) (d := q.1) h1 hg
      have hz : (q.1.len + 1) * 64 <= 140737488355328 := by omega
      have hl : (D.l (q.1.rows ++ [(wyF2 (paW s_) ((s_.size : Nat) : Int) q.2).1])).len + left (paW s_) (wyF2 (paW s_) ((s_.size : Nat) : Int) q.2).2 <= 1000001 := by rw [ap_len]; omega
      obtain ⟨b1, b2, b3, b4, b5, b6⟩ := wpR_up ((s_.size : Nat) : Int) (r := gx q.2) g1
      refine ⟨g1, b1, ⟨(.l [], wuA (paW s_) ((s_.size : Nat) : Int) (gx q.2)), ⟨b2, rfl, (by show 0 + left (paW s_) (wuA (paW s_) ((s_.size : Nat) : Int) (gx q.2)) <= 1000001; have := (lf_lt b2).2; omega)⟩, (by (repeat' (with_reducible apply And.intro)) <;> first | with_reducible rfl | exact True.intro | assumption | (symm; assumption) | rfl)⟩, ?_⟩
      rintro p ⟨p1, p2, p3⟩
      refine ⟨p1, fun hk => ?_, fun hk => ?_⟩
      · have hlt2 := (isB_lt hk).2
        rw [gw_eq p1 hlt2, nx1 p1 hlt2]
        have g2 := (gx_up p1 hlt2).1
        have c1 := (wn_up ((s_.size : Nat) : Int) 1 g2).1
        obtain ⟨v1, v2⟩ := (wvF_sq ((s_.size : Nat) : Int)).up p.2 p1 hk
        have v3 := lt_left v1 p1 v2
        have hs := seq_step (wvF_sq ((s_.size : Nat) : Int)) (d := p.1) p1 hk
        have hl3 : (D.l (p.1.rows ++ [(wvF (paW s_) ((s_.size : Nat) : Int) p.2).1])).len + left (paW s_) (wvF (paW s_) ((s_.size : Nat) : Int) p.2).2 <= 1000001 := by rw [ap_len]; omega
        refine ⟨g2, rfl, (by show (p.1.len + 1) * 16 <= 140737488355328; omega), Nat.le_refl 1, c1, (.l (p.1.rows ++ [(wvF (paW s_) ((s_.size : Nat) : Int) p.2).1]), (wvF (paW s_) ((s_.size : Nat) : Int) p.2).2), ⟨v1, hs.trans p2, hl3⟩, v3, ?_⟩
        (repeat' (with_reducible apply And.intro)) <;> first | with_reducible rfl | exact True.intro | exact (ap_len _ _).symm | rfl
      · have p2 : (p.1, p.2) = wpV (paW s_) ((s_.size : Nat) : Int) (gx q.2) := (seq_end hk).symm.trans p2
        have d1 := (wtX_up ((s_.size : Nat) : Int) (paW s_) 0).up _ p1
        have eF : wyF2 (paW s_) ((s_.size : Nat) : Int) q.2 = ([.s (wnS (paW s_) (gx q.2)), .l p.1.rows, .l (wtX ((s_.size : Nat) : Int) (paW s_) 0 p.2).1.rows], muR (paW s_) ((s_.size : Nat) : Int) cbB (wtX ((s_.size : Nat) : Int) (paW s_) 0 p.2).2) := by unfold wyF2 wpZ wpR wpB Po.row; rw [← p2]
        rw [eF] at u1 u3 hs hl
        refine ⟨p1, (lf_lt p1).1, (lf_lt p1).2, d1.2, Nat.le_of_eq (Nat.zero_add _), Nat.le_of_eq (Nat.zero_add _), rfl, hz, Nat.le_refl 1, (.l (q.1.rows ++ [[.s (wnS (paW s_) (gx q.2)), .l p.1.rows, .l (wtX ((s_.size : Nat) : Int) (paW s_) 0 p.2).1.rows]]), muR (paW s_) ((s_.size : Nat) : Int) cbB (wtX ((s_.size : Nat) : Int) (paW s_) 0 p.2).2), ⟨u1, hs.trans h2, hl⟩, u3, ?_⟩
        simp only [subAll]
        (repeat' (with_reducible apply And.intro)) <;> first | with_reducible rfl | exact True.intro | exact (ap_len _ _).symm | rfl
    have hg : wkG kwP (paW s_) q.2 = false := hc
    have h2 : (q.1, q.2) = wyP (paW s_) ((s_.size : Nat) : Int) (mR 0 0 0) := (seq_end hg).symm.trans h2
    have eq1 : (wyP (paW s_) ((s_.size : Nat) : Int) (mR 0 0 0)).1 = q.1 := by rw [← h2]
    refine ⟨fun hn => ⟨h1, fun he => ?_, fun he => ?_⟩, fun hn => ⟨fun he => ?_, fun he => ?_⟩⟩
    · have hY : rpY s_ = ffR (paW s_) ((s_.size : Nat) : Int) 5 q.2 := by unfold rpY wyR; rw [← h2]; exact if_pos (of_decide_eq_true hn)
      obtain ⟨a1, a2, a3, a4, a5⟩ := rp_bad hl hY (ne_of_bne he)
      rw [a1, a2, a3, a4, a5]
      (repeat' (with_reducible apply And.intro)) <;> first | with_reducible rfl | exact True.intro | assumption | (symm; assumption) | rfl
    · have hY : rpY s_ = ffR (paW s_) ((s_.size : Nat) : Int) 5 q.2 := by unfold rpY wyR; rw [← h2]; exact if_pos (of_decide_eq_true hn)
      obtain ⟨a1, a2, a3, a4, a5⟩ := rp_good hl hY (of_not_bne he)
      rw [a1, a2, a3, a4, a5, eq1]
      (repeat' (with_reducible apply And.intro)) <;> first | with_reducible rfl | exact True.intro | assumption | (symm; assumption) | rfl
    · have hY : rpY s_ = q.2 := by unfold rpY wyR; rw [← h2]; exact if_neg (of_decide_eq_false hn)
      obtain ⟨a1, a2, a3, a4, a5⟩ := rp_bad hl hY (ne_of_bne he)
      rw [a1, a2, a3, a4, a5]
      (repeat' (with_reducible apply And.intro)) <;> first | with_reducible rfl | exact True.intro | assumption | (symm; assumption) | rfl
    · have hY : rpY s_ = q.2 := by unfold rpY wyR; rw [← h2]; exact if_neg (of_decide_eq_false hn)
      obtain ⟨a1, a2, a3, a4, a5⟩ := rp_good hl hY (of_not_bne he)
      rw [a1, a2, a3, a4, a5, eq1]
      (repeat' (with_reducible apply And.intro)) <;> first | with_reducible rfl | exact True.intro | assumption | (symm; assumption) | rfl
  · trivial
end Go.Proofs.Ytbhbjhejkamlnaa.Sx.Z

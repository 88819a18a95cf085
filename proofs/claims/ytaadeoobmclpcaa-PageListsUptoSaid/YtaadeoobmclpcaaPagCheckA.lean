/- A page as an array: how it is read, and held against noughts. -/
import Derived.Test.YtaadeoobmclpcaaPagSealB
import Derived.ChangeKeysEq
namespace Go.Proofs.Ytaadeoobmclpcaa
open Go.ChangeShapes Go.WideShapes Go.ChangeAt Go.RowKit

theorem wpList_wanted {P : Program} {w : World} {ops : Array Oper} {rest : List Oper} {o : Oper} {a : Act} {Q : Exit → Act → World → Prop} (hw : Region.wanted o (yielded ops a.tmps) = true)
    (h : ∀ K : Act → World → Prop, (∀ a w, wpList P ops Q rest a w → K a w) → o.wp P a w K Q) : wpList P ops Q (o :: rest) a w :=
  wpList_step fun K hK => by rw [if_pos hw]; exact h K hK
theorem wpList_load_arr {P : Program} {w : World} {ops : Array Oper} {rest : List Oper} {o : Oper} {a : Act} {Q : Exit → Act → World → Prop} (hw : Region.wanted o (yielded ops a.tmps) = true) (ty : TypeId) (x : Operand) (ho : o.op = .load ty x)
    (ad : Addr) (hx : a.eval x = .pointer (some ad)) (cs : Array Value) (hrun : (loadVar ty ad).run P w = .ok (.agg cs) w)
    (h : wpList P ops Q rest (a.put o.dst (.agg cs)) w) : wpList P ops Q (o :: rest) a w :=
  wpList_wanted hw fun K hK => by
    unfold Oper.wp execOp
    simp only [ho, hx, Instr.loadAt, Instr.sureAddr, Sem.run_bind, Sem.run_pure, Result.andThen_ok, hrun]
    exact hK _ _ h
theorem wpList_build_arr {P : Program} {w : World} {ops : Array Oper} {rest : List Oper} {o : Oper} {a : Act} {Q : Exit → Act → World → Prop} (hw : Region.wanted o (yielded ops a.tmps) = true) (ty : TypeId) (ho : o.op = .build ty #[])
    (cs : Array Value) (hf : P.built ty [] = some cs)
    (h : wpList P ops Q rest (a.put o.dst (.agg cs)) w) : wpList P ops Q (o :: rest) a w :=
  wpList_wanted hw fun K hK => by
    refine wp_build ty #[] ho (by simp [hf]) ?_
    simp [hf]
    exact hK _ _ h
/-- A page of noughts. -/
def noughts : List Nat := List.replicate 512 0
/-- Its cells. -/
def Noughts : Array Value := u8c noughts
theorem item_u8 (xs : List Nat) (w : World) (i : Nat) (hi : i < xs.length) : (part 5 (u8c xs) (i * 1)).run Try.prog w = .ok (.int .u8 (xs[i] : Int)) w := by
  have hagg : (isAgg 5).run Try.prog w = .ok false w := by
    unfold isAgg
    rw [Sem.run_bind, run_underlying Try.underlying5 w]
    rfl
  rw [Nat.mul_one]
  simp only [part, Sem.run_bind, hagg, Result.andThen_ok, Bool.false_eq_true, if_false, u8c_get xs i hi]
  rfl
theorem same_u8 (d : Nat) (x y : Nat) (w : World) : (Op.equalIn (d + 1) 5 (.int .u8 (x : Int)) (.int .u8 (y : Int))).run Try.prog w = .ok (decide (x = y)) w := by
  simp [Op.equalIn, run_underlying Try.underlying5]
  rw [Bool.eq_iff_iff, beq_iff_eq, decide_eq_true_eq]
  omega
theorem items_u8 (d : Nat) (xs ys : List Nat) (w : World) : ∀ is : List Nat, (∀ i ∈ is, i < xs.length ∧ i < ys.length) →
    (Op.eqItems (d + 1) 5 1 (u8c xs) (u8c ys) is).run Try.prog w = .ok (is.all fun i => decide (xs.getD i 0 = ys.getD i 0)) w := by
  intro is
  induction is with
  | nil => intro _; rfl
  | cons i is ih =>
    intro h
    obtain ⟨h1, h2⟩ := h i (by simp)
    have hx : xs.getD i 0 = xs[i] := by rw [List.getD_eq_getElem?_getD, List.getElem?_eq_getElem h1]; rfl
    have hy : ys.getD i 0 = ys[i] := by rw [List.getD_eq_getElem?_getD, List.getElem?_eq_getElem h2]; rfl
    simp only [Op.eqItems, Sem.run_bind, item_u8 xs w i h1, item_u8 ys w i h2, same_u8, Result.andThen_ok, List.all_cons, hx, hy]
    by_cases e : xs[i] = ys[i]
    · simp only [e, decide_true, Bool.not_true, Bool.false_eq_true, if_false, Bool.true_and]
      exact ih (fun j hj => h j (by simp [hj]))
    · simp [e]
theorem cells5 : Try.prog.cellsOf 5 = 1 := by kernel_rfl
end Go.Proofs.Ytaadeoobmclpcaa

/- A table's small functions: who waits, a name's lock, an owner's block. -/
import Derived.Test.YthanjncpgcmnaaaLckMem
namespace Go.Proofs.Ythanjncpgcmnaaa
open Go.ChangeShapes Go.WideShapes Go.ChangeAt Go.RowKit

theorem zeroLkP (w : World) : (zeroValue 63).run Try.prog w = .ok (.pointer none) w := by kernel_rfl
theorem zeroOwP (w : World) : (zeroValue 80).run Try.prog w = .ok (.pointer none) w := by kernel_rfl
theorem zeroI (w : World) : (zeroValue 3).run Try.prog w = .ok (.int .i64 0) w := by kernel_rfl
theorem asIs_inv {v : Value} {o : Option Nat} {ps : List MemPlace} (h : asIs v = some (((o.map fun b => DataW.held (ptr (some b))).getD (.held (.pointer none))), ps)) : v = ptr o := by
  cases o <;> cases v <;> simp [asIs, ptr] at h ⊢ <;> exact h.1
section
variable {w : World} {who : Nat → Tag} {N : Nat}
theorem look_lk {lm : Nat} {hold : ByteArray → Nat → Nat} {queue : ByteArray → List (Nat × Nat)} {lk : ByteArray → Option LkG} (H : Locks w who lm hold queue lk N) {nm : ByteArray} (hn : nm.size ≤ maxLen) :
    (Instr.lookup 57 (.map (some lm)) (.string nm) false).run Try.prog w = .ok (ptr ((lk nm).map (·.b))) w := by
  obtain ⟨v, ps, hr, hv⟩ := H.own.look keysS Try.underlying57 (zeroLkP w) (zd := .held (.pointer none)) (zp := []) rfl (a := nm) hn (hkS hn)
  rw [hr, asIs_inv (v := v) (o := (lk nm).map (·.b)) (ps := ps) (by rw [hv, Option.map_map]; rfl)]
theorem look_ow {om : Nat} {held : Nat → ByteArray → Nat} {waits : Nat → ByteArray × Nat} {ow : Nat → Option OwG} (H : Owners w who om held waits ow N) {o : Nat} (hn : o < top) :
    (Instr.lookup 58 (.map (some om)) (.int .u64 (o : Int)) false).run Try.prog w = .ok (ptr ((ow o).map (·.b))) w := by
  obtain ⟨v, ps, hr, hv⟩ := H.own.look keysU Try.underlying58 (zeroOwP w) (zd := .held (.pointer none)) (zp := []) rfl (a := o) hn (hkU hn)
  rw [hr, asIs_inv (v := v) (o := (ow o).map (·.b)) (ps := ps) (by rw [hv, Option.map_map]; rfl)]
theorem look_ow_ok {om : Nat} {held : Nat → ByteArray → Nat} {waits : Nat → ByteArray × Nat} {ow : Nat → Option OwG} (H : Owners w who om held waits ow N) {o : Nat} (hn : o < top) :
    (Instr.lookup 58 (.map (some om)) (.int .u64 (o : Int)) true).run Try.prog w = .ok (.tuple #[ptr ((ow o).map (·.b)), .bool (ow o).isSome]) w := by
  obtain ⟨v, ps, hr, hv⟩ := H.own.look_ok keysU Try.underlying58 (zeroOwP w) (zd := .held (.pointer none)) (zp := []) rfl (a := o) hn (hkU hn)
  rw [hr, asIs_inv (v := v) (o := (ow o).map (·.b)) (ps := ps) (by rw [hv, Option.map_map]; rfl), Option.isSome_map]
theorem mode_inv {α : Type} {h : α → Nat} {a : α} {v : Value} {ps : List MemPlace} (hv : plainElem Try.prog 3 v = some ((modes h a).getD (.lit (.int .i64 0)), ps)) : v = .int .i64 (h a : Int) := by
  obtain ⟨c, rfl, hc, hw⟩ := plainElem_int_inv Try.underlying3 hv
  have hc := congrArg Prod.fst hc
  unfold modes at hc
  split at hc
  · rename_i h0
    simp only [Option.getD_none, DataW.lit.injEq, Lit.int.injEq, true_and] at hc
    rw [h0, ← hc]; rfl
  · simp only [Option.getD_some, DataW.lit.injEq, Lit.int.injEq, true_and] at hc
    rw [hc]
theorem look_hold {nm : ByteArray} {k : LkG} {h : Nat → Nat} {q : List (Nat × Nat)} (H : LkAt w who nm k h q N) {o : Nat} (hn : o < top) :
    (Instr.lookup 66 (.map (some k.hm)) (.int .u64 (o : Int)) false).run Try.prog w = .ok (.int .i64 (h o : Int)) w := by
  obtain ⟨v, ps, hr, hv⟩ := H.own.look keysU Try.underlying66 (zeroI w) (zd := .lit (.int .i64 0)) (zp := []) (plainElem_int Try.underlying3 rfl) (a := o) hn (hkU hn)
  rw [hr, mode_inv hv]
theorem look_hold_ok {nm : ByteArray} {k : LkG} {h : Nat → Nat} {q : List (Nat × Nat)} (H : LkAt w who nm k h q N) {o : Nat} (hn : o < top) :
    (Instr.lookup 66 (.map (some k.hm)) (.int .u64 (o : Int)) true).run Try.prog w = .ok (.tuple #[.int .i64 (h o : Int), .bool (decide (h o ≠ 0))]) w := by
  obtain ⟨v, ps, hr, hv⟩ := H.own.look_ok keysU Try.underlying66 (zeroI w) (zd := .lit (.int .i64 0)) (zp := []) (plainElem_int Try.underlying3 rfl) (a := o) hn (hkU hn)
  have e : (modes h o).isSome = decide (h o ≠ 0) := by
    unfold modes
    by_cases e : h o = 0 <;> simp [e]
  rw [hr, mode_inv hv, e]
theorem look_held {o : Nat} {k : OwG} {h : ByteArray → Nat} {wt : ByteArray × Nat} (H : OwAt w who o k h wt N) {nm : ByteArray} (hn : nm.size ≤ maxLen) :
    (Instr.lookup 77 (.map (some k.hm)) (.string nm) false).run Try.prog w = .ok (.int .i64 (h nm : Int)) w := by
  obtain ⟨v, ps, hr, hv⟩ := H.own.look keysS Try.underlying77 (zeroI w) (zd := .lit (.int .i64 0)) (zp := []) (plainElem_int Try.underlying3 rfl) (a := nm) hn (hkS hn)
  rw [hr, mode_inv hv]
/-- The table's two cells. -/
theorem tab_cells {g : Nat} {S : St} {x : Gh} (H : Tab w g S x N) : w.cell? ⟨g, 0, none⟩ = some (.map (some x.lm)) ∧ w.cell? ⟨g, 1, none⟩ = some (.map (some x.om)) :=
  ⟨by rw [cell_of_row _ _ _ _ _ _ H.cells]; rfl, by rw [cell_of_row _ _ _ _ _ _ H.cells]; rfl⟩
theorem lk_cells {nm : ByteArray} {k : LkG} {h : Nat → Nat} {q : List (Nat × Nat)} (H : LkAt w who nm k h q N) : w.cell? ⟨k.b, 0, none⟩ = some (.map (some k.hm)) ∧ w.cell? ⟨k.b, 1, none⟩ = some k.qv :=
  ⟨by rw [cell_of_row _ _ _ _ _ _ H.cells]; rfl, by rw [cell_of_row _ _ _ _ _ _ H.cells]; rfl⟩
theorem ow_cells {o : Nat} {k : OwG} {h : ByteArray → Nat} {wt : ByteArray × Nat} (H : OwAt w who o k h wt N) : w.cell? ⟨k.b, 0, none⟩ = some (.map (some k.hm)) ∧ w.cell? ⟨k.b, 1, none⟩ = some (.string wt.1) ∧ w.cell? ⟨k.b, 2, none⟩ = some (.int .i64 (wt.2 : Int)) ∧ ∀ j, w.frozen? ⟨k.b, j, none⟩ = false :=
  ⟨by rw [cell_of_row _ _ _ _ _ _ H.cells]; rfl, by rw [cell_of_row _ _ _ _ _ _ H.cells]; rfl, by rw [cell_of_row _ _ _ _ _ _ H.cells]; rfl, fun _ => frozen_of_row _ _ _ _ _ H.cells⟩
end
theorem waiting_any {w : World} {g : Nat} {S : St} {x : Gh} {N : Nat} (H : Tab w g S x N) {o : Nat} (ho : o < top) :
    Calls Try.prog 28 #[.pointer (some ⟨g, 0, none⟩), .int .u64 (o : Int)] w fun e w' => e = .returned (.bool (decide ((S.waits o).2 ≠ 0))) ∧ w = w' := by
  obtain ⟨c0, c1⟩ := tab_cells H
  have hl := look_ow_ok H.owners ho
  cases hw : x.ow o with
  | none =>
    have HW : Hid ((S.waits o).2 = 0) := Lib.hid (by rw [(H.owners.none o hw).2])
    rw [hw] at hl
    simp only [Option.map_none, Option.isSome_none, ptr] at hl
    clear H hw c0 ho
    go_enter Try.func28, Try.ntmps28
    go_wp2
    go_ret
    exact ⟨ret_bool (by rw [HW.out]; rfl), rfl⟩
  | some k =>
    obtain ⟨k0, k1, k2, -⟩ := ow_cells (H.owners.each o k hw)
    rw [hw] at hl
    simp only [Option.map_some, Option.isSome_some, ptr] at hl
    generalize (S.waits o).2 = m at k2 ⊢
    clear H hw c0 ho k0 k1
    by_cases hm : m = 0
    · subst hm
      go_enter Try.func28, Try.ntmps28
      go_wp2
      go_ret
      exact ⟨rfl, rfl⟩
    · have d : ((m : Int) != 0) = true := by simp; omega
      have HM : Hid (decide (m ≠ 0) = true) := Lib.hid (by simpa using hm)
      clear hm
      go_enter Try.func28, Try.ntmps28
      go_wp2
      go_ret
      exact ⟨ret_bool HM.out.symm, rfl⟩
end Go.Proofs.Ythanjncpgcmnaaa

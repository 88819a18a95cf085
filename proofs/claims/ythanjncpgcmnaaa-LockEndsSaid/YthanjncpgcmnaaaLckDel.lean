/- The first of a queue is taken off. -/
import Derived.Test.YthanjncpgcmnaaaLckStep
import Derived.Laws.IdiomCopy
import Derived.StillTailTactics
namespace Go.Proofs.Ythanjncpgcmnaaa
open Go.ChangeShapes Go.WideShapes Go.ChangeAt Go.RowKit

theorem setCells_size (b : Nat) (vs : List Value) (o : Nat) (w : World) : (w.setCells b o vs).heap.size = w.heap.size := by
  induction vs generalizing o w with
  | nil => rfl
  | cons v r ih => rw [World.setCells, ih]; simp [World.setCell]
theorem addr_add (b off j : Nat) : (⟨b, off, none⟩ : Addr).add j = ⟨b, off + j, none⟩ := by unfold Addr.add; split <;> simp_all
def zeroW : List Value := [.int .u64 0, .int .i64 0]
theorem zero74 (w : World) : (zeroValue 74).run Try.prog w = .ok (.agg #[.int .u64 0, .int .i64 0]) w := by kernel_rfl
theorem zeroCells_one : (Builtin.zeroCells (Value.cells (.agg #[.int .u64 0, .int .i64 0])) 1).toList = zeroW := by kernel_rfl
/-- The worlds on the way. -/
theorem del_cells {w : World} {b off cap n : Nat} {a c : Value} {tail : List Value} (h : Slc w (some b) 2 (.slice (some ⟨b, off, none⟩) (n + 1) cap) (n + 1) (a :: c :: tail)) (ad : Addr) (hz : n ≠ 0 → ad = ⟨b, off + 2, none⟩) (c' c'' : Nat) :
    (∀ ty, (Builtin.append_ #[67, 67] ty #[.slice (some ⟨b, off, none⟩) 0 cap, .slice (some ad) n c']).run Try.prog w = .ok (.slice (some ⟨b, off, none⟩) n cap) (w.setCells b off tail)) ∧
    (∀ ty, (Builtin.clear_ #[67] ty #[.slice (some ⟨b, off + n * 2, none⟩) 1 c'']).run Try.prog (w.setCells b off tail) = .ok (.tuple #[]) ((w.setCells b off tail).setCells b (off + n * 2) zeroW)) ∧
    Slc ((w.setCells b off tail).setCells b (off + n * 2) zeroW) (some b) 2 (.slice (some ⟨b, off, none⟩) n cap) n tail ∧ Turned (fun k => k = b) w ((w.setCells b off tail).setCells b (off + n * 2) zeroW) := by
  obtain ⟨i, R⟩ := rowWaiter
  obtain ⟨hl, h1, ⟨e, _⟩ | ⟨b', off', cap', e1, e2, hlt, hn, hcm, hx, hsp⟩⟩ := h
  · cases e
  cases e1; cases e2
  have htl : tail.length = n * 2 := by simp at hl; omega
  have hone : ∀ u ∈ tail, u.oneCell' = true := fun u hu => h1 u (by simp [hu])
  have hT1 := setCells_turned b tail off w
  have hT2 := setCells_turned b zeroW (off + n * 2) (w.setCells b off tail)
  have hcell : ∀ j u, tail[j]? = some u → w.cell? ⟨b, off + 2 + j, none⟩ = some u := fun j u hu => by
    have := hx (j + 2) u (by simpa using hu)
    rwa [show off + (j + 2) = off + 2 + j from by omega] at this
  have hsrc : _root_.Go.Src Try.prog 2 67 (.slice (some ad) n c') n tail w := _root_.Go.Src.ofSlice w Try.underlying67 ad n c' tail htl (fun j u hu => by
    have hn0 : n ≠ 0 := by have := (List.getElem?_eq_some_iff.1 hu).1; omega
    rw [hz hn0, addr_add]; exact hcell j u hu) hone
  have hfr : ∀ j, w.frozen? ⟨b, off + j, none⟩ = w.frozen? ⟨b, off + j, none⟩ := fun _ => rfl
  have hc1 : ∀ j, j < cap * 2 → ((w.setCells b off tail).cell? ⟨b, off + j, none⟩).isSome = true ∧ (w.setCells b off tail).frozen? ⟨b, off + j, none⟩ = false := fun j hj => by
    rw [World.frozen?_setCells]
    refine ⟨?_, (hsp j hj).2⟩
    by_cases hin : j < tail.length
    · rw [World.cell?_setCells_in b tail off w (fun k hk => (hsp k (by omega)).1) j hin]; rfl
    · rw [World.cell?_setCells_out b tail _ w _ (fun _ _ => by show off + j < off ∨ off + tail.length ≤ off + j; omega)]
      exact (hsp j hj).1
  refine ⟨fun ty => ?_, fun ty => ?_, ⟨htl, hone, .inr ⟨b, off, cap, rfl, rfl, by rw [setCells_size, setCells_size]; exact hlt, by omega, hcm, fun j u hu => ?_, fun j hj => ?_⟩⟩, hT1.trans hT2 (Grows.refl _ _)⟩
  · have hr := run_append_room_src (P := Try.prog) w 67 67 ty 74 i R.ht R.hi b off 0 cap (.slice (some ad) n c') n tail (by rw [R.hsz]; exact hsrc) (by omega) (fun j hj => by rw [R.hsz, Nat.zero_mul]; exact (hsp j (by omega)).1) (fun j hj => by rw [R.hsz, Nat.zero_mul]; exact (hsp j (by omega)).2)
    rw [hr, R.hsz, Nat.zero_mul, Nat.zero_add]; rfl
  · have hst := run_storeCells_cells (P := Try.prog) b (off + n * 2) zeroW 0 (w.setCells b off tail) (fun j hj => by
        have : j < 2 := hj
        have := (hc1 (n * 2 + j) (by omega)).1
        rwa [← Nat.add_assoc] at this) (fun j hj => by
        have : j < 2 := hj
        have := (hc1 (n * 2 + j) (by omega)).2
        rwa [← Nat.add_assoc] at this) (fun v hv => by simp [zeroW] at hv; rcases hv with rfl | rfl <;> rfl)
    have hzc := zeroCells_one
    simp only [Nat.add_zero] at hst
    simp [Builtin.clear_, run_underlying Try.underlying67, hzc, hst, Result.andThen]
  · have hj := (List.getElem?_eq_some_iff.1 hu).1
    rw [World.cell?_setCells_out b zeroW _ _ _ (fun _ _ => .inl (by show off + j < off + n * 2; omega))]
    have := World.cell?_setCells_in b tail off w (fun k hk => (hsp k (by omega)).1) j hj
    rw [this]
    exact (List.getElem?_eq_getElem hj).symm.trans hu
  · rw [World.frozen?_setCells]
    refine ⟨?_, (hc1 j hj).2⟩
    by_cases hin : n * 2 ≤ j ∧ j < n * 2 + 2
    · have := World.cell?_setCells_in b zeroW (off + n * 2) (w.setCells b off tail) (fun k hk => by
        have hk2 : k < 2 := hk
        have := (hc1 (n * 2 + k) (by omega)).1
        rwa [← Nat.add_assoc] at this) (j - n * 2) (by show j - n * 2 < 2; omega)
      rw [show off + n * 2 + (j - n * 2) = off + j from by omega] at this
      rw [this]; rfl
    · rw [World.cell?_setCells_out b zeroW _ _ _ (fun _ _ => by show off + j < off + n * 2 ∨ off + n * 2 + 2 ≤ off + j; omega)]
      exact (hc1 j hj).1
/-- What Delete leaves. -/
def Deleted (w : World) (b n : Nat) (tail : List Value) (e : Ending) (w' : World) : Prop := ∃ a c, e = .returned (.slice a n c) ∧ Slc w' (some b) 2 (.slice a n c) n tail ∧ Turned (fun k => k = b) w w'
section
variable {P : Program} {w w1 : World} {ops : Array Oper} {rest : List Oper} {o : Oper} {a : Act} {Q : Exit → Act → World → Prop} (hg : o.guard = none)
include hg
theorem wpList_append_run (s x : Operand) (t tx : TypeId) (ho : o.op = .call { callee := .builtin .append, args := #[s, x], argTypes := #[t, tx] }) (vs vx v : Value) (hs : a.eval s = vs) (hx : a.eval x = vx)
    (hrun : ∀ ty, (Builtin.append_ #[t, tx] ty #[vs, vx]).run P w = .ok v w1) (h : wpList P ops Q rest (a.put o.dst v) w1) : wpList P ops Q (o :: rest) a w :=
  wpList_plain hg fun K hK => by
    unfold Oper.wp execOp
    simp only [ho, resolve, invoke, builtin, Sem.run_bind, Sem.run_pure, Result.andThen_ok, List.map_toArray, List.map_cons, List.map_nil, hs, hx, hrun]
    exact hK _ _ h
theorem wpList_clear_run (s : Operand) (t : TypeId) (ho : o.op = .call { callee := .builtin .clear, args := #[s], argTypes := #[t] }) (vs v : Value) (hs : a.eval s = vs)
    (hrun : ∀ ty, (Builtin.clear_ #[t] ty #[vs]).run P w = .ok v w1) (h : wpList P ops Q rest (a.put o.dst v) w1) : wpList P ops Q (o :: rest) a w :=
  wpList_plain hg fun K hK => by
    unfold Oper.wp execOp
    simp only [ho, resolve, invoke, builtin, Sem.run_bind, Sem.run_pure, Result.andThen_ok, List.map_toArray, List.map_cons, List.map_nil, hs, hrun]
    exact hK _ _ h
theorem wpList_delete_run (s x : Operand) (t tx : TypeId) (ho : o.op = .call { callee := .builtin .delete, args := #[s, x], argTypes := #[t, tx] }) (vs vx v : Value) (hs : a.eval s = vs) (hx : a.eval x = vx)
    (hrun : ∀ ty, (Builtin.delete_ #[t, tx] ty #[vs, vx]).run P w = .ok v w1) (h : wpList P ops Q rest (a.put o.dst v) w1) : wpList P ops Q (o :: rest) a w :=
  wpList_plain hg fun K hK => by
    unfold Oper.wp execOp
    simp only [ho, resolve, invoke, builtin, Sem.run_bind, Sem.run_pure, Result.andThen_ok, List.map_toArray, List.map_cons, List.map_nil, hs, hx, hrun]
    exact hK _ _ h
end
theorem slice_one (b off n cap : Nat) (hn : n + 1 ≤ cap) : ∃ ad c', (n ≠ 0 → ad = ⟨b, off + 2, none⟩) ∧ ∀ V, (Instr.slice 67 (.slice (some ⟨b, off, none⟩) (n + 1) cap) (some (.int .i64 1)) none none).run Try.prog V = .ok (.slice (some ad) n c') V := by
  by_cases e : cap = 1
  · refine ⟨⟨b, off, none⟩, cap - 1, fun h => by omega, fun V => ?_⟩
    simp [go_sem, Try.underlying67, e]
    omega
  · refine ⟨⟨b, off + 2, none⟩, cap - 1, fun _ => rfl, fun V => ?_⟩
    simp [go_sem, Try.underlying67, e]
    intro hh
    omega
set_option maxRecDepth 100000 in
set_option maxHeartbeats 1000000 in
theorem delete_any {w : World} {b : Nat} {v : Value} {n : Nat} {x y : Value} {tail : List Value} (h : Slc w (some b) 2 v (n + 1) (x :: y :: tail)) :
    Calls Try.prog 63 #[v, .int .i64 0, .int .i64 1] w (Deleted w b n tail) := by
  obtain ⟨_, _, ⟨e, _⟩ | ⟨b', off, cap, e1, rfl, hlt, hn, hcm, _⟩⟩ := id h
  · cases e
  cases e1
  unfold maxLen at hcm
  obtain ⟨ad, c', hz, hs1⟩ := slice_one b off n cap hn
  generalize hQ : Deleted w b n tail = Q
  have HQ := Lib.hid hQ
  have H := Lib.hid h
  clear h hQ
  go_enter Try.func63, Try.ntmps63
  go_wp2
  go_still_tail 6, (by kernel_rfl)
  change wpList _ _ _ _ _ w.drew
  obtain ⟨r1, r2, r3, r4⟩ := del_cells (slc_below H.out (Below.drew (Below.refl _ w))) ad hz c' (cap - n)
  have R2 := Lib.hid r2; have R3 := Lib.hid r3; have R4 := Lib.hid (show Turned (fun k => k = b) w _ from ⟨r4.os, r4.tape, r4.output, r4.size, r4.block⟩)
  clear r2 r3 r4 H hs1 hz
  refine wpList_append_run rfl (.tmp 22) (.tmp 25) _ _ rfl _ _ _ rfl rfl r1 ?_
  clear r1
  generalize w.drew.setCells b off tail = w1 at R2 R3 R4 ⊢
  go_wp2_with (refine wpList_clear_run rfl (.tmp 31) _ rfl _ _ rfl R2.out ?_)
  rw [← HQ.out]
  exact ⟨_, _, rfl, R3.out, R4.out⟩
end Go.Proofs.Ythanjncpgcmnaaa

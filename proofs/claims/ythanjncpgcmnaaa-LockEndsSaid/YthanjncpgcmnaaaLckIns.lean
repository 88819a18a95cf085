/- One that waits is put behind all others. -/
import Derived.Test.YthanjncpgcmnaaaLckAsk
import Derived.LoopN
namespace Go.Proofs.Ythanjncpgcmnaaa
open Go.ChangeShapes Go.WideShapes Go.ChangeAt Go.RowKit

theorem info74 : (Try.prog.info? 74).map (fun i => (i.zero, i.size, i.bytes)) = some (some (.agg #[.int .u64 0, .int .i64 0]), 2, 16) := by kernel_rfl
theorem rowWaiter : ∃ i, Rowy Try.prog 67 74 i (.agg #[.int .u64 0, .int .i64 0]) 2 16 := by
  obtain ⟨i, hi, hz0, hz1, hz2⟩ := info_parts info74
  exact ⟨i, Try.underlying67, hi, hz0, hz1, hz2, rfl⟩
theorem qcells_snoc (q : List (Nat × Nat)) (p : Nat × Nat) : qcells (q ++ [p]) = qcells q ++ [.int .u64 (p.1 : Int), .int .i64 (p.2 : Int)] := by
  rw [qcells, List.flatMap_append]; rfl
theorem wait_src {w : World} {g o m : Nat} (h : w.cell? ⟨g, 0, none⟩ = some (.int .u64 (o : Int))) (h' : w.cell? ⟨g, 1, none⟩ = some (.int .i64 (m : Int))) : _root_.Go.Src Try.prog 2 67 (.slice (some ⟨g, 0, none⟩) 1 1) 1 [.int .u64 (o : Int), .int .i64 (m : Int)] w :=
  _root_.Go.Src.ofSlice w Try.underlying67 ⟨g, 0, none⟩ 1 1 _ rfl (fun j u hu => by
    have e : ∀ j, (⟨g, 0, none⟩ : Addr).add j = ⟨g, j, none⟩ := fun j => by unfold Addr.add; split <;> simp_all
    rw [e]
    match j, hu with
    | 0, hu => cases hu; exact h
    | 1, hu => cases hu; exact h') (fun u hu => by simp at hu; rcases hu with rfl | rfl <;> rfl)
/-- None is found among none. -/
theorem index_none (w : World) (ao : Option Addr) (cap : Nat) (fn : Value) : Calls Try.prog 32 #[.slice ao 0 cap, fn] w fun e w' => e = .returned (.int .i64 (-1)) ∧ w = w' := by
  go_enter Try.func32, Try.ntmps32
  go_wp2
  refine wp_loop_rounds 1 ?_
  rw [rounds_succ]
  go_wp2
  go_ret
  exact ⟨rfl, rfl⟩
/-- A queue with one more behind. -/
def Put (w : World) (qb : Option Nat) (q : List (Nat × Nat)) (e : Ending) (w' : World) : Prop :=
  ∃ v qb', e = .returned v ∧ Slc w' qb' 2 v q.length (qcells q) ∧ Turned (fun k => qb = some k) w w' ∧ (qb' = qb ∨ ∃ b, qb' = some b ∧ w.heap.size ≤ b)
theorem slice_end {w : World} {bo : Option Nat} {v : Value} {n : Nat} {xs : List Value} (h : Slc w bo 2 v n xs) : ∃ u, ∀ V, (Instr.slice 67 v (some (.int .i64 (n : Int))) none none).run Try.prog V = .ok u V := by
  obtain ⟨_, _, ⟨_, rfl, rfl⟩ | ⟨b, off, cap, _, rfl, _⟩⟩ := h
  · exact ⟨_, fun V => by simp [go_sem, Try.underlying67]; rfl⟩
  · by_cases e : cap = n
    · exact ⟨_, fun V => by simp [go_sem, Try.underlying67, e]; rfl⟩
    · exact ⟨_, fun V => by simp [go_sem, Try.underlying67, e]; rfl⟩
set_option maxRecDepth 100000 in
set_option maxHeartbeats 1000000 in
theorem insert_end {w : World} {qb : Option Nat} {v : Value} {n : Nat} {q : List (Nat × Nat)} (h : Slc w qb 2 v n (qcells q)) (hn : q.length = n) (hb : n < 8796093022208) {g o m : Nat} (h0 : w.cell? ⟨g, 0, none⟩ = some (.int .u64 (o : Int))) (h1 : w.cell? ⟨g, 1, none⟩ = some (.int .i64 (m : Int))) :
    Calls Try.prog 34 #[v, .int .i64 (n : Int), .slice (some ⟨g, 0, none⟩) 1 1] w (Put w qb (q ++ [(o, m)])) := by
  obtain ⟨i, R⟩ := rowWaiter
  have HR := Lib.hid R
  obtain ⟨u, hu⟩ := slice_end h
  have HS := Lib.hid (wait_src h0 h1)
  obtain ⟨ao, cap, rfl, hle, hmx, -⟩ := slc_form h
  have H := Lib.hid h
  have HN := Lib.hid hn
  generalize hQ : Put w qb (q ++ [(o, m)]) = Q
  have HQ := Lib.hid hQ
  unfold maxLen at hmx
  clear R h h0 h1 hn hQ
  go_enter Try.func34, Try.ntmps34
  go_wp2_with (refine wpList_slc HR.out rfl (.tmp 23) (.tmp 24) 67 rfl rfl rfl H.out HS.out rfl (by unfold maxLen; omega) (by omega) ?_; intro ao2 cap2 bo w2 g1 g2 g3; have G1 := Lib.hid g1; have G2 := Lib.hid g2; have G3 := Lib.hid g3; clear g1 g2 g3)
  rw [← HQ.out]
  refine ⟨_, bo, rfl, ?_, G2.out, ?_⟩
  · have := G1.out
    rw [← qcells_snoc q (o, m)] at this
    rw [show (q ++ [(o, m)]).length = n + 1 by rw [List.length_append, HN.out]; rfl]
    exact this
  · rcases G3.out with e | e
    · exact .inl e
    · exact .inr ⟨_, e, Nat.le_refl _⟩
end Go.Proofs.Ythanjncpgcmnaaa

/- Appending noughts, so many of them, to a slice of one's own: laws. -/
import Derived.Test.YtikcanbhdickgaaDskAwake
import Derived.Lib.AppendZerosOnto
namespace Go.Proofs.Ytikcanbhdickgaa
open Go.ChangeShapes Go.WideShapes Go.ChangeAt Go.RowKit

theorem zero_cells (k : Nat) : Builtin.zeroCells (Value.int .u8 0).cells k = (u8s (List.replicate k 0)).toArray := by
  apply Array.ext'
  unfold Builtin.zeroCells u8s
  rw [show (Value.int .u8 0).cells = #[.int .u8 0] from rfl]
  simp only [Array.size_singleton, Nat.mul_one, Array.toList_map, Array.toList_range, List.map_replicate]
  rw [List.eq_replicate_iff]
  refine ⟨by simp, fun b hb => ?_⟩
  obtain ⟨i, _, rfl⟩ := List.mem_map.1 hb
  rw [Nat.mod_one]
  rfl
theorem run_room_zeros {P : Program} (w : World) {t tn ty e : TypeId} {i : TypeInfo} {kq kn : IntKind} (ht : P.underlying t = some (.slice e)) (htn : P.underlying tn = some (.int kn)) (hi : P.info? e = some i) (hz : i.zero = some (.int .u8 0)) (h1 : i.size = 1) (h1b : i.bytes = 1)
    (b off sLen sCap k : Nat) (h0 : 0 < k) (h63 : k ≤ 140737488355328) (hroom : sLen + k ≤ sCap) (hc : ∀ j, j < k → (w.cell? ⟨b, off + sLen * 1 + j, none⟩).isSome = true) (hf : ∀ j, j < k → w.frozen? ⟨b, off + sLen * 1 + j, none⟩ = false) :
    (Builtin.append_ #[t, tn] ty #[.slice (some ⟨b, off, none⟩) sLen sCap, .int kq k]).run P w = .ok (.slice (some ⟨b, off, none⟩) (sLen + k) sCap) (w.setCells b (off + sLen * 1) (u8s (List.replicate k 0))) := by
  have hw : IntKind.i64.wrap (k : Int) = k := by rw [IntKind.wrap_i64]; omega
  have hneg : ¬ ((k : Int) < 0) := by omega
  have h48 : ¬ (281474976710656 < (k : Int)) := by omega
  have hk : k ≠ 0 := by omega
  have hst := run_storeCells_cells (P := P) b (off + sLen * 1) (u8s (List.replicate k 0)) 0 w (by simpa [u8s] using hc) (by simpa [u8s] using hf) (u8s_one _)
  simp only [Nat.add_zero, Nat.mul_one] at hst
  simp [Builtin.append_, run_underlying ht, run_underlying htn, sizeOf, typeInfo, zeroValue, hi, hz, asInt, asIntOf, hw, hk, hneg, h48, h1, h1b, hroom, Addr.add_lit, zero_cells, hst]
/-- Noughts appended, whatever they are appended to. -/
theorem slc_zeros {P : Program} {w : World} {t tn ty e : TypeId} {i : TypeInfo} {kq kn : IntKind} (R : Rowy P t e i (.int .u8 0) 1 1) (htn : P.underlying tn = some (.int kn))
    {bo : Option Nat} {n k : Nat} {v : Value} {xs : List Value} (h : Slc w bo 1 v n xs) (h0 : 0 < k) (hb : n + k ≤ 140737488355328) :
    ∃ v' bo' w', (Builtin.append_ #[t, tn] ty #[v, .int kq k]).run P w = .ok v' w' ∧ Slc w' bo' 1 v' (n + k) (xs ++ u8s (List.replicate k 0)) ∧ Turned (fun j => bo = some j) w w' ∧ (bo' = bo ∨ bo' = some w.heap.size) := by
  have hl0 : (u8s (List.replicate k 0)).length = k := by simp [u8s]
  have hl2 : (xs ++ u8s (List.replicate k 0)).length = (n + k) * 1 := by rw [List.length_append, h.1, hl0]; omega
  have hone : ∀ u ∈ xs ++ u8s (List.replicate k 0), u.oneCell' = true := fun u hu => by
    rcases List.mem_append.1 hu with h' | h'
    · exact h.2.1 u h'
    · exact u8s_one _ u h'
  have h63 : n + k ≤ maxLen := by unfold maxLen; omega
  obtain ⟨ys, hys⟩ : ∃ ys, ys = u8s (List.replicate k 0) := ⟨_, rfl⟩
  rw [← hys] at hl0 hl2 hone ⊢
  have grown : ∀ (base : Option Addr) (cap : Nat), v = .slice base n cap → cap < n + k → (∀ w' : World, w'.heap = w.heap → (Builtin.firstCells i.size n (.slice base n cap)).run P w' = .ok xs.toArray w') →
      ∃ v' bo' w', (Builtin.append_ #[t, tn] ty #[v, .int kq k]).run P w = .ok v' w' ∧ Slc w' bo' 1 v' (n + k) (xs ++ ys) ∧ Turned (fun j => bo = some j) w w' ∧ (bo' = bo ∨ bo' = some w.heap.size) := by
    intro base cap hv hlt hold
    have hr := Lib.run_append_grow_zeros (P := P) w t tn ty e i (.int .u8 0) kq kn R.ht htn R.hi R.hz base n cap xs (hold w.drew rfl) k h0 (by rw [R.hsz]; decide) hlt (by omega) (by rw [R.hby]; omega) (by rw [R.hby]; exact growslice_fits hlt (by omega))
    have hge := grownCap_ge w (n + k) cap e
    have hcm : grownCap w (n + k) cap e ≤ maxLen := grownCap_le_maxLen w (n + k) cap e h63
    obtain ⟨c, hc⟩ : ∃ c, c = grownCap w (n + k) cap e := ⟨_, rfl⟩
    rw [← hc] at hr hge hcm
    have ex : xs.toArray ++ Builtin.zeroCells (Value.int .u8 0).cells k = (xs ++ ys).toArray := by rw [zero_cells, hys]; simp
    rw [ex] at hr
    rw [hv]
    have hrow : (w.drew.alloc (.cells ((xs ++ ys).toArray ++ Builtin.zeroCells (Value.int .u8 0).cells (c - (n + k))) e)).heap[w.heap.size]? = some (.cells ((xs ++ ys).toArray ++ Builtin.zeroCells (Value.int .u8 0).cells (c - (n + k))) e (0, 0)) := heap_alloc_new w.drew _
    refine ⟨_, some w.heap.size, _, hr, ⟨hl2, hone, .inr ⟨w.heap.size, 0, c, rfl, rfl, by simp, hge, hcm, fun j u hu => ?_, fun j hj => ?_⟩⟩, (Turned.refl _ w).drew.alloc _, .inr rfl⟩
    · rw [cell_of_row _ _ _ _ _ _ hrow, Nat.zero_add]
      have hj := (List.getElem?_eq_some_iff.1 hu).1
      rw [Array.getElem?_append_left (by simpa using hj)]
      simpa using hu
    · refine ⟨?_, frozen_of_row _ _ _ _ _ hrow⟩
      rw [cell_of_row _ _ _ _ _ _ hrow, Nat.zero_add]
      have hsize : j < ((xs ++ ys).toArray ++ Builtin.zeroCells (Value.int .u8 0).cells (c - (n + k))).size := by
        rw [Array.size_append, List.size_toArray, hl2, size_zeroCells, show (Value.int .u8 0).cells.size = 1 from rfl, ← Nat.add_mul, show n + k + (c - (n + k)) = c from by omega]
        exact hj
      rw [Array.getElem?_eq_getElem hsize]
      rfl
  obtain ⟨h1, h2, ⟨rfl, rfl, rfl⟩ | ⟨b, off, cap, rfl, rfl, hbl, hn, hc, hx, hsp⟩⟩ := h
  · obtain rfl : xs = [] := List.length_eq_zero_iff.1 (by simpa using h1)
    exact grown none 0 rfl (by omega) (fun w' _ => by rw [run_firstCells_none])
  · have hadd : ∀ j, (⟨b, off, none⟩ : Addr).add j = ⟨b, off + j, none⟩ := fun j => by unfold Addr.add; split <;> simp_all
    by_cases hroom : n + k ≤ cap
    · have hsp' : ∀ j, j < k → (w.cell? ⟨b, off + n * 1 + j, none⟩).isSome = true ∧ w.frozen? ⟨b, off + n * 1 + j, none⟩ = false := fun j hj => by
        have := hsp (n * 1 + j) (by omega)
        rwa [← Nat.add_assoc] at this
      have hr := run_room_zeros (P := P) (ty := ty) (kq := kq) w R.ht htn R.hi R.hz R.hsz R.hby b off n cap k h0 (by omega) hroom (fun j hj => (hsp' j hj).1) (fun j hj => (hsp' j hj).2)
      rw [← hys] at hr
      refine ⟨_, some b, _, hr, ⟨hl2, hone, .inr ⟨b, off, cap, rfl, rfl, ?_, hroom, hc, fun j u hu => ?_, fun j hj => ?_⟩⟩, (setCells_turned b ys (off + n * 1) w).mono (fun k e => by rw [e]), .inl rfl⟩
      · exact Nat.lt_of_lt_of_le hbl (setCells_turned b ys (off + n * 1) w).size
      · by_cases hj : j < xs.length
        · rw [World.cell?_setCells_out b ys _ w _ (fun _ _ => .inl (by show off + j < off + n * 1; omega))]
          rw [List.getElem?_append_left hj] at hu
          exact hx j u hu
        · rw [List.getElem?_append_right (by omega)] at hu
          have hj' := (List.getElem?_eq_some_iff.1 hu).1
          have := World.cell?_setCells_in b ys (off + n * 1) w (fun q hq => (hsp' q (by omega)).1) (j - xs.length) hj'
          rw [show off + n * 1 + (j - xs.length) = off + j from by omega] at this
          rw [this]
          exact (List.getElem?_eq_getElem hj').symm.trans hu
      · rw [World.frozen?_setCells]
        refine ⟨?_, (hsp j hj).2⟩
        by_cases hin : n * 1 ≤ j ∧ j < n * 1 + ys.length
        · have := World.cell?_setCells_in b ys (off + n * 1) w (fun q hq => (hsp' q (by omega)).1) (j - n * 1) (by omega)
          rw [show off + n * 1 + (j - n * 1) = off + j from by omega] at this
          rw [this]; rfl
        · rw [World.cell?_setCells_out b ys _ w _ (fun _ _ => by show off + j < off + n * 1 ∨ off + n * 1 + ys.length ≤ off + j; omega)]
          exact (hsp j hj).1
    · exact grown (some ⟨b, off, none⟩) cap rfl (by omega) (fun w' hw' => by
        rw [R.hsz]
        exact run_firstCells_some w' 1 n _ n cap xs h1 (fun j u hu => by
          rw [hadd, World.cell?_of_block (a := ⟨b, off + j, none⟩) (show w'.heap[b]? = w.heap[b]? by rw [hw'])]
          exact hx j u hu))
section
variable {P : Program} {t tn e : TypeId} {i : TypeInfo} {kq kn : IntKind} (R : Rowy P t e i (.int .u8 0) 1 1) (htn : P.underlying tn = some (.int kn))
include R htn
theorem wp_zeros {w : World} {o : Oper} {a : Act} {K : Act → World → Prop} {Q : Exit → Act → World → Prop} (s x : Operand) (ho : o.op = .call { callee := .builtin .append, args := #[s, x], argTypes := #[t, tn] })
    {bo : Option Nat} {v : Value} {n k r : Nat} {xs : List Value} (hs : a.eval s = v) (hx : a.eval x = .int kq k) (h : Slc w bo 1 v n xs) (hr : n + k = r) (h0 : 0 < k) (hb : r ≤ 140737488355328)
    (hK : ∀ ao cap bo' w', Slc w' bo' 1 (.slice ao r cap) r (xs ++ u8s (List.replicate k 0)) → Turned (fun j => bo = some j) w w' → (bo' = bo ∨ bo' = some w.heap.size) → K (a.put o.dst (.slice ao r cap)) w') : o.wp P a w K Q := by
  subst hr
  obtain ⟨v', bo', w', hrun, h1, h2, h3⟩ := slc_zeros (ty := o.type) (kq := kq) R htn h h0 hb
  obtain ⟨ao, cap, rfl, _⟩ := slc_form h1
  unfold Oper.wp execOp
  simp only [ho, resolve, invoke, builtin, Sem.run_bind, Sem.run_pure, Result.andThen_ok, List.map_toArray, List.map_cons, List.map_nil, hs, hx, hrun]
  exact hK ao cap bo' w' h1 h2 h3
theorem wpList_zeros {w : World} {ops : Array Oper} {rest : List Oper} {o : Oper} {a : Act} {Q : Exit → Act → World → Prop} (hgd : o.guard = none) (s x : Operand) (ho : o.op = .call { callee := .builtin .append, args := #[s, x], argTypes := #[t, tn] })
    {bo : Option Nat} {v : Value} {n k r : Nat} {xs : List Value} (hs : a.eval s = v) (hx : a.eval x = .int kq k) (h : Slc w bo 1 v n xs) (hr : n + k = r) (h0 : 0 < k) (hb : r ≤ 140737488355328)
    (hK : ∀ ao cap bo' w', Slc w' bo' 1 (.slice ao r cap) r (xs ++ u8s (List.replicate k 0)) → Turned (fun j => bo = some j) w w' → (bo' = bo ∨ bo' = some w.heap.size) → wpList P ops Q rest (a.put o.dst (.slice ao r cap)) w') : wpList P ops Q (o :: rest) a w :=
  wpList_plain hgd fun _ hK' => wp_zeros R htn s x ho hs hx h hr h0 hb fun ao cap bo' w' h1 h2 h3 => hK' _ _ (hK ao cap bo' w' h1 h2 h3)
end
end Go.Proofs.Ytikcanbhdickgaa

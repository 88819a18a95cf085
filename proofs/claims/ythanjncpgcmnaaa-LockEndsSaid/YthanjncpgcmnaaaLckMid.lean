/- One that wants more is put into the middle of a queue. -/
import Derived.Test.YthanjncpgcmnaaaLckGiv
import Derived.Test.YthanjncpgcmnaaaLckFree
import Derived.Shelf.Spec.SlicesInsertGrow
import Derived.Laws.LoneSync
import Derived.LoopN
namespace Go.Proofs.Ythanjncpgcmnaaa
open Go.ChangeShapes Go.WideShapes Go.ChangeAt Go.RowKit

theorem setCellsE_size (b : Nat) (vs : List Value) (o : Nat) (w : World) : (w.setCells b o vs).heap.size = w.heap.size := by
  induction vs generalizing o w with
  | nil => rfl
  | cons v r ih => rw [World.setCells, ih]; simp [World.setCell]
theorem addrE_add (b off j : Nat) : (⟨b, off, none⟩ : Addr).add j = ⟨b, off + j, none⟩ := by unfold Addr.add; split <;> simp_all
theorem copy_two {P : Program} (w : World) (dT sT ty elem : TypeId) (b o dLen dCap : Nat) (a : Addr) (sLen sCap : Nat) (cs : List Value) (n : Nat)
    (hu : P.underlying dT = some (.slice elem)) (hs : (P.info? elem).map (·.size) = some 2) (hn : n = Nat.min sLen dLen) (hcl : cs.length = n * 2)
    (hsrc : ∀ j v, cs[j]? = some v → w.cell? (a.add j) = some v) (hc : ∀ j, j < cs.length → (w.cell? ⟨b, o + j, none⟩).isSome = true) (hf : ∀ j, j < cs.length → w.frozen? ⟨b, o + j, none⟩ = false) (h1 : ∀ v ∈ cs, v.oneCell' = true) :
    (Builtin.copy_ #[dT, sT] ty #[.slice (some ⟨b, o, none⟩) dLen dCap, .slice (some a) sLen sCap]).run P w = .ok (goInt n) (w.setCells b o cs) := by
  have hl := run_loadCells_list (P := P) w a cs hsrc
  have hst := run_storeCells_cells (P := P) b o cs 0 w (by simpa using hc) (by simpa using hf) h1
  cases hq : P.info? elem with
  | none => simp [hq] at hs
  | some i =>
    have hi : i.size = 2 := by simpa [hq] using hs
    simp [Builtin.copy_, run_underlying hu, Builtin.lenOf, Builtin.firstCells, sizeOf, typeInfo, hq, hi, ← hn, ← hcl, hl, hst]
theorem cells_app {R : Nat → Value → Prop} {A B : List Value} {o : Nat} (hA : ∀ j u, A[j]? = some u → R (o + j) u) (hB : ∀ j u, B[j]? = some u → R (o + A.length + j) u) : ∀ j u, (A ++ B)[j]? = some u → R (o + j) u := fun j u h => by
  by_cases hj : j < A.length
  · rw [List.getElem?_append_left hj] at h; exact hA j u h
  · rw [List.getElem?_append_right (by omega)] at h
    have := hB _ u h
    rwa [show o + A.length + (j - A.length) = o + j from by omega] at this
theorem setCells_at (b : Nat) (vs : List Value) (o : Nat) (w : World) (h : ∀ j, j < vs.length → (w.cell? ⟨b, o + j, none⟩).isSome = true) : ∀ j u, vs[j]? = some u → (w.setCells b o vs).cell? ⟨b, o + j, none⟩ = some u := fun j u hu => by
  obtain ⟨hj, e⟩ := List.getElem?_eq_some_iff.1 hu
  rw [World.cell?_setCells_in b vs o w h j hj, e]
theorem isSome_set (b : Nat) (vs : List Value) (o : Nat) (w : World) (h : ∀ j, j < vs.length → (w.cell? ⟨b, o + j, none⟩).isSome = true) (k : Nat) (hk : (w.cell? ⟨b, k, none⟩).isSome = true) : ((w.setCells b o vs).cell? ⟨b, k, none⟩).isSome = true := by
  by_cases hin : o ≤ k ∧ k < o + vs.length
  · have := World.cell?_setCells_in b vs o w h (k - o) (by omega)
    rw [show o + (k - o) = k by omega] at this
    rw [this]; rfl
  · rw [World.cell?_setCells_out b vs o w ⟨b, k, none⟩ (fun _ _ => by show k < o ∨ o + vs.length ≤ k; omega)]
    exact hk
theorem qcells_app (q r : List (Nat × Nat)) : qcells (q ++ r) = qcells q ++ qcells r := by rw [qcells, List.flatMap_append]; rfl
theorem qcells_len (q : List (Nat × Nat)) : (qcells q).length = q.length * 2 := by
  induction q with
  | nil => rfl
  | cons p r ih => show (qcells r).length + 2 = _; rw [ih, List.length_cons]; omega
theorem qcells_one {q : List (Nat × Nat)} : ∀ v ∈ qcells q, v.oneCell' = true := fun v hv => by
  obtain ⟨p, _, hp⟩ := List.mem_flatMap.1 hv
  simp at hp
  rcases hp with rfl | rfl <;> rfl
theorem qcells_drop (q : List (Nat × Nat)) (i j : Nat) : (qcells (q.drop i))[j]? = (qcells q)[i * 2 + j]? := by
  by_cases hi : i ≤ q.length
  · conv => rhs; rw [← List.take_append_drop i q, qcells_app]
    rw [List.getElem?_append_right (by rw [qcells_len, List.length_take]; omega), qcells_len, List.length_take, show i * 2 + j - min i q.length * 2 = j from by rw [Nat.min_eq_left hi]; omega]
  · rw [List.drop_eq_nil_of_le (by omega), List.getElem?_eq_none (by simp [qcells]), List.getElem?_eq_none (by rw [qcells_len]; omega)]
theorem qcells_take (q : List (Nat × Nat)) (i : Nat) (j : Nat) (u : Value) (h : (qcells (q.take i))[j]? = some u) : (qcells q)[j]? = some u := by
  conv => lhs; rw [← List.take_append_drop i q, qcells_app]
  rw [List.getElem?_append_left (List.getElem?_eq_some_iff.1 h).1]
  exact h
/-- The queue with one in the middle. -/
def mid (q : List (Nat × Nat)) (i o m : Nat) : List (Nat × Nat) := q.take i ++ (o, m) :: q.drop i
theorem mid_len (q : List (Nat × Nat)) {i o m : Nat} (h : i ≤ q.length) : (mid q i o m).length = q.length + 1 := by
  simp [mid]; omega
theorem mid_end (q : List (Nat × Nat)) {o m : Nat} : mid q q.length o m = q ++ [(o, m)] := by simp [mid]
/-- A row in which one is put: what it reads as. -/
theorem mid_slc {W : World} {b off cap : Nat} {q : List (Nat × Nat)} {i o m : Nat} (hi : i ≤ q.length) (hb : b < W.heap.size) (hn : q.length + 1 ≤ cap) (hc : cap ≤ maxLen)
    (hA : ∀ j u, (qcells (q.take i))[j]? = some u → W.cell? ⟨b, off + j, none⟩ = some u) (hB : ∀ j u, (qcells [(o, m)])[j]? = some u → W.cell? ⟨b, off + i * 2 + j, none⟩ = some u) (hD : ∀ j u, (qcells (q.drop i))[j]? = some u → W.cell? ⟨b, off + (i + 1) * 2 + j, none⟩ = some u)
    (hsp : ∀ j, j < cap * 2 → (W.cell? ⟨b, off + j, none⟩).isSome = true ∧ W.frozen? ⟨b, off + j, none⟩ = false) : Slc W (some b) 2 (.slice (some ⟨b, off, none⟩) (q.length + 1) cap) (mid q i o m).length (qcells (mid q i o m)) := by
  rw [mid_len q hi]
  refine ⟨by rw [qcells_len, mid_len q hi], qcells_one, .inr ⟨b, off, cap, rfl, rfl, hb, hn, hc, ?_, hsp⟩⟩
  have hl : (qcells (q.take i)).length = i * 2 := by rw [qcells_len, List.length_take, Nat.min_eq_left hi]
  show ∀ j u, (qcells (q.take i ++ ([(o, m)] ++ q.drop i)))[j]? = some u → _
  rw [qcells_app, qcells_app]
  refine cells_app (R := fun k u => W.cell? ⟨b, k, none⟩ = some u) hA ?_
  rw [hl]
  refine cells_app (R := fun k u => W.cell? ⟨b, k, none⟩ = some u) hB ?_
  rw [show (qcells [(o, m)]).length = 2 from rfl, show off + i * 2 + 2 = off + (i + 1) * 2 from by omega]
  exact hD
theorem waiter_size : (Try.prog.info? 74).map (·.size) = some 2 := by kernel_rfl
theorem waiter_sizeOf (w : World) : (Go.sizeOf 74).run Try.prog w = .ok 2 w := by kernel_rfl
set_option maxHeartbeats 4000000 in
set_option maxRecDepth 100000 in
/-- There is room. -/
theorem insert_shift {w : World} {b off cap n i : Nat} {q : List (Nat × Nat)} (h : Slc w (some b) 2 (.slice (some ⟨b, off, none⟩) n cap) n (qcells q)) (hq : q.length = n) (hi : i < n) (hroom : n + 1 ≤ cap) {g o m : Nat} (hg : Cells w g 74 #[.int .u64 (o : Int), .int .i64 (m : Int)]) (hgb : g ≠ b) :
    Calls Try.prog 34 #[.slice (some ⟨b, off, none⟩) n cap, .int .i64 (i : Int), .slice (some ⟨g, 0, none⟩) 1 1] w (Put w (some b) (mid q i o m)) := by
  obtain ⟨_, _, ⟨e, _⟩ | ⟨b', off', cap', e1, e2, hblt, hnc, hcm, hx, hsp⟩⟩ := h
  · cases e
  cases e1; cases e2
  unfold maxLen at hcm
  have hx0 : ∃ u, w.cell? ⟨b, off, none⟩ = some u := Option.isSome_iff_exists.1 (hsp 0 (by omega)).1
  obtain ⟨u0, hu0⟩ := hx0
  obtain ⟨tB, kB, hsb, hkB, -⟩ := World.shape?_of_cell? hu0
  have hg0 : w.cell? ⟨g, 0, none⟩ = some (.int .u64 (o : Int)) := (cell_of_row _ _ 0 _ _ _ hg).trans rfl
  have hsa : w.shape? g = some (74, 2) := by
    have hg' : w.heap[g]? = some (.cells #[.int .u64 (o : Int), .int .i64 (m : Int)] 74 (0, 0)) := hg
    simp [World.shape?, hg']
  have hov : ∀ lb cb, (callFunc 57 #[.slice (some ⟨g, 0, none⟩) 1 1, .slice (some ⟨b, off + (i + 1) * 2, none⟩) lb cb]).run Try.prog w = .ok (.value (.bool false)) w := fun lb cb => by
    rw [run_callFunc_extern Try.func57 (by kernel_rfl) (by kernel_rfl) (by kernel_rfl) (e := Extern.SlicesOverlaps.overlaps #[67, 67] #[4]) (by kernel_rfl),
      Lib.run_overlaps_apart w 67 4 74 Try.underlying67 2 waiter_sizeOf ⟨g, 0, none⟩ ⟨b, off + (i + 1) * 2, none⟩ 1 1 lb cb hgb 74 tB 2 kB hsa hsb (by omega) (frozen_of_row _ _ _ _ _ hg) (frozen_of_row _ _ _ _ _ hg)]
    rfl
  have hdl : (qcells (q.drop i)).length = (n - i) * 2 := by rw [qcells_len, List.length_drop, hq]
  have hw1 : IntKind.i64.wrap ((i : Int) + 1) = (i : Int) + 1 := by rw [IntKind.wrap_i64]; omega
  have hw2 : IntKind.i64.wrap ((n : Int) + 1) = (n : Int) + 1 := by rw [IntKind.wrap_i64]; omega
  have hcp1 : ∀ ty dc sc, (Builtin.copy_ #[67, 67] ty #[.slice (some ⟨b, off + (i + 1) * 2, none⟩) (n - i) dc, .slice (some ⟨b, off + i * 2, none⟩) (n + 1 - i) sc]).run Try.prog w.drew = .ok (goInt ((n - i : Nat) : Int)) (w.drew.setCells b (off + (i + 1) * 2) (qcells (q.drop i))) := fun ty dc sc =>
    copy_two w.drew _ _ ty 74 b (off + (i + 1) * 2) (n - i) dc ⟨b, off + i * 2, none⟩ (n + 1 - i) sc (qcells (q.drop i)) (n - i) Try.underlying67 waiter_size (by simp only [Nat.min_def]; split <;> omega) hdl
      (fun j v hj => by rw [addrE_add, Nat.add_assoc]; exact hx (i * 2 + j) v (by rwa [qcells_drop] at hj))
      (fun j hj => by rw [Nat.add_assoc]; exact (hsp _ (by omega)).1) (fun j hj => by rw [Nat.add_assoc]; exact (hsp _ (by omega)).2) qcells_one
  obtain ⟨W1, hW1⟩ : ∃ W1, W1 = w.drew.setCells b (off + (i + 1) * 2) (qcells (q.drop i)) := ⟨_, rfl⟩
  have hsp1 : ∀ k, k < cap * 2 → (W1.cell? ⟨b, off + k, none⟩).isSome = true := fun k hk => by
    rw [hW1]
    exact isSome_set b _ _ _ (fun j hj => by rw [Nat.add_assoc]; exact (hsp _ (by omega)).1) _ (hsp k hk).1
  have hf1 : ∀ k, k < cap * 2 → W1.frozen? ⟨b, off + k, none⟩ = false := fun k hk => by
    rw [hW1, World.frozen?_setCells]; exact (hsp k hk).2
  have hgW : ∀ j v, (qcells [(o, m)])[j]? = some v → W1.cell? ⟨g, 0 + j, none⟩ = some v := fun j v hj => by
    rw [hW1, World.cell?_setCells_out b _ _ _ _ (fun h _ => absurd h hgb), Nat.zero_add]
    match j, hj with
    | 0, hj => cases hj; exact hg0
    | 1, hj => cases hj; exact (cell_of_row _ _ 1 _ _ _ hg).trans rfl
  have hcp2 : ∀ (W : World), (∀ x, W.cell? x = W1.cell? x) → (∀ x, W.frozen? x = W1.frozen? x) → ∀ ty dc, (Builtin.copy_ #[67, 67] ty #[.slice (some ⟨b, off + i * 2, none⟩) (n + 1 - i) dc, .slice (some ⟨g, 0, none⟩) 1 1]).run Try.prog W = .ok (goInt 1) (W.setCells b (off + i * 2) (qcells [(o, m)])) := fun W hWc hWf ty dc =>
    copy_two W _ _ ty 74 b (off + i * 2) (n + 1 - i) dc ⟨g, 0, none⟩ 1 1 (qcells [(o, m)]) 1 Try.underlying67 waiter_size (by simp only [Nat.min_def]; split <;> omega) rfl
      (fun j v hj => by rw [addrE_add, hWc]; exact hgW j v hj)
      (fun j hj => by have : j < 2 := hj; rw [hWc, Nat.add_assoc]; exact hsp1 _ (by omega)) (fun j hj => by have : j < 2 := hj; rw [hWf, Nat.add_assoc]; exact hf1 _ (by omega)) qcells_one
  have HX : Hid (∀ W : World, (∀ x, W.cell? x = W1.cell? x) → (∀ x, W.frozen? x = W1.frozen? x) → W.heap.size = W1.heap.size → Turned (fun k => k = b) w W → Put w (some b) (mid q i o m) (.returned (.slice (some ⟨b, off, none⟩) (n + 1) cap)) (W.setCells b (off + i * 2) (qcells [(o, m)]))) := Lib.hid (fun W hWc hWf hWs hWt => by
    have hin : ∀ j, j < (qcells [(o, m)]).length → (W.cell? ⟨b, off + i * 2 + j, none⟩).isSome = true := fun j hj => by
      have : j < 2 := hj
      rw [hWc, Nat.add_assoc]; exact hsp1 _ (by omega)
    have hsl := mid_slc (W := W.setCells b (off + i * 2) (qcells [(o, m)])) (b := b) (off := off) (cap := cap) (q := q) (i := i) (o := o) (m := m) (by omega) (by rw [setCellsE_size, hWs, hW1, setCellsE_size]; exact hblt) (by omega) (by unfold maxLen; omega)
      (fun j u hu => by
        have hj : j < i * 2 := by have := (List.getElem?_eq_some_iff.1 hu).1; rw [qcells_len, List.length_take] at this; omega
        rw [World.cell?_setCells_out b _ _ _ _ (fun _ _ => .inl (by show off + j < _; omega)), hWc, hW1, World.cell?_setCells_out b _ _ _ _ (fun _ _ => .inl (by show off + j < _; omega))]
        exact hx j u (qcells_take q i j u hu))
      (setCells_at b _ _ _ hin)
      (fun j u hu => by
        rw [World.cell?_setCells_out b _ _ _ _ (fun _ _ => .inr (by show off + i * 2 + 2 ≤ off + (i + 1) * 2 + j; omega)), hWc, hW1]
        exact setCells_at b _ _ _ (fun j hj => by rw [Nat.add_assoc]; exact (hsp _ (by omega)).1) j u hu)
      (fun j hj => ⟨isSome_set b _ _ _ hin _ (by rw [hWc]; exact hsp1 j hj), by rw [World.frozen?_setCells, hWf]; exact hf1 j hj⟩)
    refine ⟨_, some b, rfl, by rw [← hq]; exact hsl, (hWt.trans (setCells_turned b _ _ _) (Grows.refl _ _)).mono (fun k e => by rw [e]), .inl rfl⟩)
  have ht1 : Turned (fun k => k = b) w W1 := by
    rw [hW1]
    have r4 := setCells_turned b (qcells (q.drop i)) (off + (i + 1) * 2) w.drew
    exact ⟨r4.os, r4.tape, r4.output, r4.size, r4.block⟩
  have HT1 := Lib.hid ht1
  rw [← hW1] at hcp1
  generalize hQ : Put w (some b) (mid q i o m) = Q at HX ⊢
  clear hQ hx hsp hsp1 hf1 hgW hW1 hdl hq ht1 hu0 hg0 hsa hsb hg
  have mixed : Try.prog.follows Departure.mixedOrders = true := by kernel_rfl
  have hb1 : (0 : Int) ≤ (i : Int) + 1 := by omega
  have hin : i ≤ n := by omega
  have htn : ((i : Int) + 1).toNat = i + 1 := by omega
  have hb2 : ¬ (cap = i + 1) := by omega
  have hb3 : (i : Int) ≤ (n : Int) + 1 := by omega
  have hb4 : ¬ (cap = i) := by omega
  have u1 := run_underlying Try.underlying67
  have u2 := waiter_sizeOf
  go_enter Try.func34, Try.ntmps34
  go_wp2_with (simp only [hov])
  go_region_law_o (refine step_copy_runI rfl _ _ 67 67 rfl _ _ (by simp [Act.eval, Act.put]) (by simp [Act.eval, Act.put]) (hcp1 _ _ _) ?_)
  go_wp2_with (at_builtin; refine wpList_copy_runI _ rfl _ _ 67 67 rfl _ _ rfl rfl (hcp2 _ (fun _ => rfl) (fun _ => rfl) _ _) ?_)
  exact HX.out _ (fun _ => rfl) (fun _ => rfl) rfl HT1.out
theorem zc_size (k : Nat) : (Builtin.zeroCells (Value.cells (.agg #[.int .u64 0, .int .i64 0])) k).size = k * 2 := by
  simp [Builtin.zeroCells, Value.cells]
set_option maxHeartbeats 4000000 in
set_option maxRecDepth 100000 in
/-- There is no room. -/
theorem insert_grow {w : World} {b off cap n i : Nat} {q : List (Nat × Nat)} (h : Slc w (some b) 2 (.slice (some ⟨b, off, none⟩) n cap) n (qcells q)) (hq : q.length = n) (hi : i < n) (hroom : cap < n + 1) (hbig : n < 8796093022207) {g o m : Nat} (hg : Cells w g 74 #[.int .u64 (o : Int), .int .i64 (m : Int)]):
    Calls Try.prog 34 #[.slice (some ⟨b, off, none⟩) n cap, .int .i64 (i : Int), .slice (some ⟨g, 0, none⟩) 1 1] w (Put w (some b) (mid q i o m)) := by
  obtain ⟨_, _, ⟨e, _⟩ | ⟨b', off', cap', e1, e2, hblt, hnc, hcm, hx, hsp⟩⟩ := h
  · cases e
  cases e1; cases e2
  obtain rfl : cap = n := by omega
  obtain ⟨ti, R⟩ := rowWaiter
  have hg0 : w.cell? ⟨g, 0, none⟩ = some (.int .u64 (o : Int)) := (cell_of_row _ _ 0 _ _ _ hg).trans rfl
  have hglt := cells_lt hg
  have hz3 : (cap : Int) < (cap : Int) + 1 := by omega
  have hkk : (cap : Int) + 1 - (i : Int) = ((cap + 1 - i : Nat) : Int) := by omega
  have hik : i + (cap + 1 - i) = cap + 1 := by omega
  have htl : (qcells (q.take i)).length = i * 2 := by rw [qcells_len, List.length_take, Nat.min_eq_left (by omega)]
  have hdl : (qcells (q.drop i)).length = (cap - i) * 2 := by rw [qcells_len, List.length_drop, hq]
  have hold : (Builtin.firstCells ti.size i (.slice (some ⟨b, off, none⟩) i cap)).run Try.prog w.drew = .ok (qcells (q.take i)).toArray w.drew := by
    rw [R.hsz]
    exact run_firstCells_some w.drew 2 i ⟨b, off, none⟩ i cap (qcells (q.take i)) htl (fun j v hj => by
      rw [addrE_add]
      exact hx j v (qcells_take q i j v hj))
  obtain ⟨G, hG⟩ : ∃ G, G = grownCap w (cap + 1) cap 74 := ⟨_, rfl⟩
  obtain ⟨ROW, hROW⟩ : ∃ ROW : Array Value, ROW = (qcells (q.take i)).toArray ++ Builtin.zeroCells (Value.cells (.agg #[.int .u64 0, .int .i64 0])) (cap + 1 - i) ++ Builtin.zeroCells (Value.cells (.agg #[.int .u64 0, .int .i64 0])) (G - (cap + 1)) := ⟨_, rfl⟩
  have hrz : ∀ ty, (Builtin.append_ #[67, 3] ty #[.slice (some ⟨b, off, none⟩) i cap, .int .i64 ((cap : Int) + 1 - (i : Int))]).run Try.prog w =
      .ok (.slice (some ⟨w.heap.size, 0, none⟩) (cap + 1) G) (w.drew.alloc (.cells ROW 74)) := fun ty => by
    have h := Lib.run_append_grow_zeros w 67 3 ty 74 ti _ .i64 .i64 R.ht Try.underlying3 R.hi R.hz (some ⟨b, off, none⟩) i cap (qcells (q.take i)) hold (cap + 1 - i) (by omega) (by rw [R.hsz]; omega) (by omega) (by omega) (by rw [R.hby]; omega) (by rw [R.hby, hik]; exact growslice_fits hroom (by omega))
    rw [hik] at h
    rw [hkk, hROW, hG]
    exact h
  have hGn : cap + 1 ≤ G := by rw [hG]; exact grownCap_ge w _ _ _
  have hG63 : G ≤ 9223372036854775807 := by
    have := grownCap_le_maxLen w (cap + 1) cap 74 (by unfold maxLen; omega)
    rw [← hG] at this
    unfold maxLen at this
    omega
  have hRl : ROW.size = G * 2 := by
    rw [hROW, Array.size_append, Array.size_append, zc_size, zc_size, List.size_toArray, htl]
    omega
  obtain ⟨W1, hW1⟩ : ∃ W1, W1 = w.drew.alloc (.cells ROW 74) := ⟨_, rfl⟩
  rw [← hW1] at hrz
  have hC1 : Cells W1 w.heap.size 74 ROW := by rw [hW1]; exact cells_new w.drew _ _
  have hN : ∀ j, j < G * 2 → (W1.cell? ⟨w.heap.size, j, none⟩).isSome = true := fun j hj => by
    rw [cell_of_row _ _ _ _ _ _ hC1, Array.getElem?_eq_getElem (by omega)]; rfl
  have hNf : ∀ j, W1.frozen? ⟨w.heap.size, j, none⟩ = false := fun j => frozen_of_row _ _ _ _ _ hC1
  have hB1 : Below w.heap.size w W1 := by rw [hW1]; exact (Below.drew (Below.refl _ w)).trans (below_alloc w.drew _)
  have hOb : ∀ j v, w.cell? ⟨b, j, none⟩ = some v → W1.cell? ⟨b, j, none⟩ = some v := fun j v h => (hB1.cell hblt).trans h
  have hgW : ∀ j v, (qcells [(o, m)])[j]? = some v → W1.cell? ⟨g, 0 + j, none⟩ = some v := fun j v hj => by
    rw [hB1.cell hglt, Nat.zero_add]
    match j, hj with
    | 0, hj => cases hj; exact hg0
    | 1, hj => cases hj; exact (cell_of_row _ _ 1 _ _ _ hg).trans rfl
  have hcpA : ∀ (W : World), (∀ x, W.cell? x = W1.cell? x) → (∀ x, W.frozen? x = W1.frozen? x) → ∀ ty dc, (Builtin.copy_ #[67, 67] ty #[.slice (some ⟨w.heap.size, i * 2, none⟩) (cap + 1 - i) dc, .slice (some ⟨g, 0, none⟩) 1 1]).run Try.prog W = .ok (goInt 1) (W.setCells w.heap.size (i * 2) (qcells [(o, m)])) := fun W hWc hWf ty dc =>
    copy_two W _ _ ty 74 w.heap.size (i * 2) (cap + 1 - i) dc ⟨g, 0, none⟩ 1 1 (qcells [(o, m)]) 1 Try.underlying67 waiter_size (by simp only [Nat.min_def]; split <;> omega) rfl
      (fun j v hj => by rw [addrE_add, hWc]; exact hgW j v hj)
      (fun j hj => by have : j < 2 := hj; rw [hWc]; exact hN _ (by omega)) (fun j hj => by rw [hWf]; exact hNf _) qcells_one
  have hbN : b ≠ w.heap.size := by omega
  have hin1 : ∀ (W : World), (∀ x, W.cell? x = W1.cell? x) → ∀ j, j < (qcells [(o, m)]).length → (W.cell? ⟨w.heap.size, i * 2 + j, none⟩).isSome = true := fun W hWc j hj => by
    have : j < 2 := hj
    rw [hWc]; exact hN _ (by omega)
  have hcpB : ∀ (W : World), (∀ x, W.cell? x = (W1.setCells w.heap.size (i * 2) (qcells [(o, m)])).cell? x) → (∀ x, W.frozen? x = (W1.setCells w.heap.size (i * 2) (qcells [(o, m)])).frozen? x) → ∀ ty dc sc, (Builtin.copy_ #[67, 67] ty #[.slice (some ⟨w.heap.size, (i + 1) * 2, none⟩) (cap - i) dc, .slice (some ⟨b, off + i * 2, none⟩) (cap - i) sc]).run Try.prog W = .ok (goInt ((cap - i : Nat) : Int)) (W.setCells w.heap.size ((i + 1) * 2) (qcells (q.drop i))) := fun W hWc hWf ty dc sc =>
    copy_two W _ _ ty 74 w.heap.size ((i + 1) * 2) (cap - i) dc ⟨b, off + i * 2, none⟩ (cap - i) sc (qcells (q.drop i)) (cap - i) Try.underlying67 waiter_size (by simp only [Nat.min_def]; split <;> omega) hdl
      (fun j v hj => by
        rw [addrE_add, hWc, World.cell?_setCells_out _ _ _ _ _ (fun h _ => absurd h hbN), Nat.add_assoc]
        exact hOb _ v (hx (i * 2 + j) v (by rwa [qcells_drop] at hj)))
      (fun j hj => by rw [hWc]; exact isSome_set _ _ _ _ (hin1 W1 (fun _ => rfl)) _ (hN _ (by omega)))
      (fun j hj => by rw [hWf, World.frozen?_setCells]; exact hNf _) qcells_one
  have HX : Hid (∀ W V : World, (∀ x, W.cell? x = W1.cell? x) → (∀ x, W.frozen? x = W1.frozen? x) → W.heap.size = W1.heap.size → Below w.heap.size w W → V = (W.setCells w.heap.size (i * 2) (qcells [(o, m)])).drew → Put w (some b) (mid q i o m) (.returned (.slice (some ⟨w.heap.size, 0, none⟩) (cap + 1) G)) (V.setCells w.heap.size ((i + 1) * 2) (qcells (q.drop i)))) := Lib.hid (fun W V hWc hWf hWs hWb hV => by
    have hVc : ∀ x, V.cell? x = (W.setCells w.heap.size (i * 2) (qcells [(o, m)])).cell? x := fun x => by rw [hV]; rfl
    have hVf : ∀ x, V.frozen? x = (W.setCells w.heap.size (i * 2) (qcells [(o, m)])).frozen? x := fun x => by rw [hV]; rfl
    have hin := hin1 W hWc
    have hVs : ∀ k, k < G * 2 → (V.cell? ⟨w.heap.size, k, none⟩).isSome = true := fun k hk => by
      rw [hVc]; exact isSome_set _ _ _ _ hin _ (by rw [hWc]; exact hN _ hk)
    have hinD : ∀ j, j < (qcells (q.drop i)).length → (V.cell? ⟨w.heap.size, (i + 1) * 2 + j, none⟩).isSome = true := fun j hj => hVs _ (by omega)
    have hs1 : w.heap.size < W1.heap.size := cells_lt hC1
    have hsl := mid_slc (W := V.setCells w.heap.size ((i + 1) * 2) (qcells (q.drop i))) (b := w.heap.size) (off := 0) (cap := G) (q := q) (i := i) (o := o) (m := m) (by omega) (by rw [setCellsE_size, hV]; show _ < ((W.setCells _ _ _).heap.size); rw [setCellsE_size, hWs]; exact hs1) (by omega) (by unfold maxLen; omega)
      (fun j u hu => by
        have hj : j < i * 2 := by have := (List.getElem?_eq_some_iff.1 hu).1; omega
        rw [Nat.zero_add, World.cell?_setCells_out _ _ _ _ _ (fun _ _ => .inl (by show j < _; omega)), hVc, World.cell?_setCells_out _ _ _ _ _ (fun _ _ => .inl (by show j < _; omega)), hWc, cell_of_row _ _ _ _ _ _ hC1, hROW, Array.getElem?_append_left (by rw [Array.size_append, List.size_toArray]; omega), Array.getElem?_append_left (by rw [List.size_toArray]; omega)]
        simpa using hu)
      (fun j u hu => by
        have hj : j < 2 := (List.getElem?_eq_some_iff.1 hu).1
        rw [Nat.zero_add, World.cell?_setCells_out _ _ _ _ _ (fun _ _ => .inl (by show i * 2 + j < (i + 1) * 2; omega)), hVc]
        exact setCells_at _ _ _ _ hin j u hu)
      (fun j u hu => by
        rw [Nat.zero_add]
        exact setCells_at _ _ _ _ hinD j u hu)
      (fun j hj => ⟨isSome_set _ _ _ _ hinD _ (by rw [Nat.zero_add]; exact hVs j hj), by rw [World.frozen?_setCells, hVf, World.frozen?_setCells, hWf]; exact hNf _⟩)
    have r1 := setCells_turned w.heap.size (qcells [(o, m)]) (i * 2) W
    have r2 := setCells_turned w.heap.size (qcells (q.drop i)) ((i + 1) * 2) V
    have r3 : Turned (fun k => k = w.heap.size) W V := by rw [hV]; exact ⟨r1.os, r1.tape, r1.output, r1.size, r1.block⟩
    have hfin : Below w.heap.size w (V.setCells w.heap.size ((i + 1) * 2) (qcells (q.drop i))) := Turned.to_below (Turned.to_below hWb r3 (fun k e => by rw [e]; exact Nat.le_refl _) hWb.size) r2 (fun k e => by rw [e]; exact Nat.le_refl _) (by have := r3.size; have := hWb.size; omega)
    exact ⟨_, some w.heap.size, rfl, by rw [hq] at hsl; exact hsl, Turned.of_below hfin, .inr ⟨_, rfl, Nat.le_refl _⟩⟩)
  have HB1 := Lib.hid hB1
  generalize hQ : Put w (some b) (mid q i o m) = Q at HX ⊢
  have mixed : Try.prog.follows Departure.mixedOrders = true := by kernel_rfl
  have hw1 : IntKind.i64.wrap ((i : Int) + 1) = (i : Int) + 1 := by rw [IntKind.wrap_i64]; omega
  have hw2 : IntKind.i64.wrap ((cap : Int) + 1) = (cap : Int) + 1 := by rw [IntKind.wrap_i64]; omega
  have hb1 : (0 : Int) ≤ (i : Int) + 1 := by omega
  have hin : i ≤ cap := by omega
  have htn : ((i : Int) + 1).toNat = i + 1 := by omega
  have hb3 : (i : Int) ≤ (cap : Int) := by omega
  have hGi : ¬ (G = i) := by omega
  have hGim : ¬ (G = i + 1) := by omega
  have hci : ¬ (cap = i) := by omega
  have u1 := run_underlying Try.underlying67
  have u2 := waiter_sizeOf
  clear hQ hx hsp hN hNf hgW hdl hq hg0 hg hkk hik hold hROW hG hRl hC1 hB1 hOb hin1 htl R
  subst hW1
  have hE1 : ∀ x, ((w.alloc (.cells ROW 74)).drew).cell? x = (w.drew.alloc (.cells ROW 74)).cell? x := fun x => rfl
  have hE2 : ∀ x, ((w.alloc (.cells ROW 74)).drew).frozen? x = (w.drew.alloc (.cells ROW 74)).frozen? x := fun x => rfl
  have hF1 : ∀ x, (((w.alloc (.cells ROW 74)).drew.setCells w.heap.size (i * 2) (qcells [(o, m)])).drew).cell? x = ((w.drew.alloc (.cells ROW 74)).setCells w.heap.size (i * 2) (qcells [(o, m)])).cell? x := fun x => rfl
  have hF2 : ∀ x, (((w.alloc (.cells ROW 74)).drew.setCells w.heap.size (i * 2) (qcells [(o, m)])).drew).frozen? x = ((w.drew.alloc (.cells ROW 74)).setCells w.heap.size (i * 2) (qcells [(o, m)])).frozen? x := fun x => rfl
  go_enter Try.func34, Try.ntmps34
  go_wp2_with (first
    | (at_builtin; refine Lib.wpList_append_run _ rfl _ _ _ _ rfl _ _ rfl rfl _ _ (hrz _) ?_)
    | (at_builtin; refine wpList_copy_runI _ rfl _ _ 67 67 rfl _ _ rfl rfl (hcpA _ hE1 hE2 _ _) ?_))
  go_region_law_o (refine step_copy_runI rfl _ _ 67 67 rfl (.slice (some ⟨w.heap.size, (i + 1) * 2, none⟩) (cap - i) (G - (i + 1))) (.slice (some ⟨b, off + i * 2, none⟩) (cap - i) (cap - i)) (by simp [Act.eval, Act.put]) (by simp [Act.eval, Act.put]) (hcpB _ hF1 hF2 3 (G - (i + 1)) (cap - i)) ?_)
  go_wp2
  exact HX.out _ _ hE1 hE2 rfl (Below.drew (below_alloc w _)) rfl
/-- Insert, wherever. -/
theorem insert_at {w : World} {qb : Option Nat} {v : Value} {n : Nat} {q : List (Nat × Nat)} (h : Slc w qb 2 v n (qcells q)) (hq : q.length = n) {i : Nat} (hi : i ≤ n) (hbig : n < 8796093022207) {g o m : Nat} (hg : Cells w g 74 #[.int .u64 (o : Int), .int .i64 (m : Int)]) (hgb : qb ≠ some g) :
    Calls Try.prog 34 #[v, .int .i64 (i : Int), .slice (some ⟨g, 0, none⟩) 1 1] w (Put w qb (mid q i o m)) := by
  by_cases e : i = n
  · subst e
    rw [← hq, mid_end]
    rw [← hq] at h hbig
    exact insert_end h rfl (by omega) ((cell_of_row _ _ 0 _ _ _ hg).trans rfl) ((cell_of_row _ _ 1 _ _ _ hg).trans rfl)
  · obtain ⟨_, _, ⟨_, _, h0⟩ | ⟨b, off, cap, rfl, rfl, _, hnc, _, _, _⟩⟩ := id h
    · omega
    · by_cases hroom : n + 1 ≤ cap
      · exact insert_shift h hq (by omega) hroom hg (fun e' => hgb (by rw [e']))
      · exact insert_grow h hq (by omega) (by omega) hbig hg
/-- The first of a queue that holds nothing there. -/
def fst0 (h : Nat → Nat) (q : List (Nat × Nat)) : Nat := q.findIdx (fun p => decide (h p.1 = 0))
set_option maxHeartbeats 1000000 in
/-- The closure that Ask hands to IndexFunc. -/
theorem more_any {w : World} {g : Nat} {S : St} {x : Gh} {N : Nat} (H : Tab w g S x N) {nm : ByteArray} {k : LkG} (hk : x.lk nm = some k) {c o m : Nat} (hc : w.cell? ⟨c, 0, none⟩ = some (.pointer (some ⟨k.b, 0, none⟩))) (ho : o < top) :
    Calls Try.prog 33 #[.agg #[.int .u64 (o : Int), .int .i64 (m : Int)], .pointer (some ⟨c, 0, none⟩)] w fun e w' => e = .returned (.bool (decide (S.hold nm o = 0))) ∧ Below w.heap.size w w' := by
  have hlt := World.block_lt_of_cell? w _ hc
  have hb1 := below_alloc w (.cells #[.int .u64 (o : Int), .int .i64 (m : Int)] 74)
  have H1 := H.below hb1
  obtain ⟨k0, -⟩ := lk_cells (H1.locks.each nm k hk)
  have hlk : ∀ n, (Instr.lookup 66 (.map (some k.hm)) (.int .u64 (o : Int)) false).run Try.prog ((w.alloc (.cells #[.int .u64 (o : Int), .int .i64 (m : Int)] 74)).drewN n) = .ok (.int .i64 (S.hold nm o : Int)) ((w.alloc (.cells #[.int .u64 (o : Int), .int .i64 (m : Int)] 74)).drewN n) := fun n => look_hold ((H1.below (below_drew1 _ n)).locks.each nm k hk) ho
  have hlt : c < w.heap.size := hlt
  have hc1 : (w.alloc (.cells #[.int .u64 (o : Int), .int .i64 (m : Int)] 74)).cell? ⟨c, 0, none⟩ = some (.pointer (some ⟨k.b, 0, none⟩)) := (hb1.cell hlt).trans hc
  have hd : (((S.hold nm o : Nat) : Int) == 0) = decide (S.hold nm o = 0) := by
    by_cases e : S.hold nm o = 0 <;> simp [e]
  generalize S.hold nm o = hh at hlk hd ⊢
  have hko : k.b < w.heap.size := by have := (H.locks.each nm k hk); exact cells_lt this.cells
  have HD := Lib.hid hd
  clear H H1 hk ho hb1 hd
  go_enter Try.func33, Try.ntmps33
  go_wp2
  go_quiet (fail)
  go_wp2
  go_ret
  exact ⟨ret_bool HD.out, below_drewN (below_alloc w _) _⟩
theorem take_fst {h : Nat → Nat} {q : List (Nat × Nat)} {j : Nat} (hj : ∀ p ∈ q.take j, h p.1 ≠ 0) (he : j = q.length ∨ ∃ p, q[j]? = some p ∧ h p.1 = 0) : fst0 h q = j := by
  unfold fst0
  rcases he with e | ⟨p, hp, e⟩
  · subst e
    rw [List.take_length] at hj
    exact List.findIdx_eq_length_of_false (fun x hx => by simpa using hj x hx)
  · obtain ⟨hjl, hp'⟩ := List.getElem?_eq_some_iff.1 hp
    rw [List.findIdx_eq hjl]
    refine ⟨by simp [hp', e], fun i hi => ?_⟩
    have := hj q[i] (List.mem_take_iff_getElem.2 ⟨i, by omega, rfl⟩)
    simpa using this
set_option maxHeartbeats 1000000 in
/-- The first of a queue that holds nothing there, or none. -/
theorem index_more {w : World} {g : Nat} {S : St} {x : Gh} {N : Nat} (H : Tab w g S x N) {nm : ByteArray} {k : LkG} (hk : x.lk nm = some k) {c : Nat} (hc : w.cell? ⟨c, 0, none⟩ = some (.pointer (some ⟨k.b, 0, none⟩))) {ao : Option Addr} {n cap : Nat} (hv : k.qv = .slice ao n cap) (hn : (S.queue nm).length = n) :
    Calls Try.prog 32 #[.slice ao n cap, .func (.func 33) #[] #[.pointer (some ⟨c, 0, none⟩)]] w fun e w' => ∃ r : Int, e = .returned (.int .i64 r) ∧ Below w.heap.size w w' ∧ ((r = (fst0 (S.hold nm) (S.queue nm) : Int) ∧ fst0 (S.hold nm) (S.queue nm) < n) ∨ (r = -1 ∧ fst0 (S.hold nm) (S.queue nm) = n)) := by
  have h := (H.locks.each nm k hk).slc
  have hqs := (H.locks.each nm k hk).qs
  rw [hv, hn] at h
  generalize hqq : S.queue nm = q at h hn hqs
  have HH := Lib.hid H; have HK := Lib.hid hk
  have HS := Lib.hid h; have HN := Lib.hid hn; have HQ := Lib.hid hqs; have HC := Lib.hid hc
  have hcm : n ≤ 9223372036854775807 := by
    obtain ⟨ao', cap', e, h1, h2, _⟩ := slc_form h
    cases e; unfold maxLen at h2; omega
  generalize hh : S.hold nm = f
  have HF := Lib.hid hh
  clear h hn hc hqs hqq H hk hv hh
  go_enter Try.func32, Try.ntmps32
  go_wp2
  go_loopw [8] (fun i wr => ∃ j : Nat, j ≤ n ∧ i = .int .i64 (j : Int) ∧ Hid (Below w.heap.size w wr) ∧ Hid (∀ p ∈ q.take j, f p.1 ≠ 0)) (fun i _ => n - (intOf i).toNat)
  case atStart => exact ⟨0, Nat.zero_le _, rfl, Lib.hid (Below.refl _ _), Lib.hid (by simp)⟩
  case round =>
    obtain ⟨j, hj, rfl, hb, hne⟩ := hrel
    by_cases hlt : j < n
    · have hjq : j < q.length := by rw [HN.out]; exact hlt
      obtain ⟨p, hp⟩ : ∃ p, q[j]? = some p := ⟨q[j], List.getElem?_eq_getElem _⟩
      have htk : q.take (j + 1) = q.take j ++ [p] := by rw [List.take_add_one, hp]; rfl
      obtain ⟨_, _, ⟨_, _, h0⟩ | ⟨b, off, cap', _, e, _, _, _, hx, _⟩⟩ := HS.out
      · omega
      cases e
      obtain ⟨x0, x1⟩ := qcell_at q j p hp
      have e0 := hx _ _ x0
      have e1 := hx _ _ x1
      have f0 : wr.cell? ⟨b, off + j * 2, none⟩ = some (.int .u64 (p.1 : Int)) := (hb.out.cell (World.block_lt_of_cell? w _ e0)).trans e0
      have f1 : wr.cell? ⟨b, off + j * 2 + 1, none⟩ = some (.int .i64 (p.2 : Int)) := (hb.out.cell (World.block_lt_of_cell? w _ e1)).trans e1
      have hpt := (HQ.out p (List.mem_of_getElem? hp)).1
      have HI := more_any (m := p.2) (HH.out.below hb.out) HK.out ((hb.out.cell (World.block_lt_of_cell? w _ HC.out)).trans HC.out) hpt
      rw [HF.out] at HI
      have HTK := Lib.hid htk; have HP := Lib.hid hp
      by_cases e : f p.1 = 0
      · have HE := Lib.hid e
        rw [decide_eq_true e] at HI
        have HI' := Lib.hid HI
        clear hx x0 x1 e0 e1 hp htk hjq HI hpt e
        go_wp2_with (go_at_call 33; refine HI'.out.mono ?_; rintro e w2 ⟨rfl, hb2⟩; have HB2 := Lib.hid (hb.out.trans (hb2.mono hb.out.size)); clear hb2)
        have hfst := take_fst hne.out (.inr ⟨p, HP.out, HE.out⟩)
        go_ret
        exact ⟨_, rfl, HB2.out, .inl ⟨by rw [hfst], by omega⟩⟩
      · have HE := Lib.hid e
        rw [decide_eq_false e] at HI
        have HI' := Lib.hid HI
        clear hx x0 x1 e0 e1 hp htk hjq HI hpt e
        go_wp2_with (go_at_call 33; refine HI'.out.mono ?_; rintro e w2 ⟨rfl, hb2⟩; have HB2 := Lib.hid (hb.out.trans (hb2.mono hb.out.size)); clear hb2)
        go_roundw
        case rel => exact ⟨j + 1, by omega, by go_num, HB2, Lib.hid (fun p' hp' => by
          rw [HTK.out] at hp'
          rcases List.mem_append.1 hp' with hp' | hp'
          · exact hne.out p' hp'
          · rw [List.mem_singleton] at hp'; subst hp'; exact HE.out)⟩
        case measure => simp [intOf]; omega
    · have : n = j := by omega
      subst this
      have hfst := take_fst hne.out (.inl HN.out.symm)
      have HFS := Lib.hid hfst
      clear hfst
      go_wp2
      go_ret
      exact ⟨_, rfl, hb.out, .inr ⟨rfl, HFS.out⟩⟩
end Go.Proofs.Ythanjncpgcmnaaa

/- One is taken out of a queue, wherever it stands. -/
import Derived.Test.YthanjncpgcmnaaaLckFree
import Derived.LoopN
namespace Go.Proofs.Ythanjncpgcmnaaa
open Go.ChangeShapes Go.WideShapes Go.ChangeAt Go.RowKit

/-- A queue without one. -/
def rem (q : List (Nat × Nat)) (id : Nat) : List (Nat × Nat) := q.filter (fun p => decide (p.1 ≠ id))
theorem rem_none {q : List (Nat × Nat)} {id : Nat} (h : ∀ p ∈ q, p.1 ≠ id) : rem q id = q := List.filter_eq_self.2 (fun p hp => by simpa using h p hp)
theorem rem_erase {q : List (Nat × Nat)} {id idx : Nat} {p : Nat × Nat} (hn : (q.map (·.1)).Nodup) (hp : q[idx]? = some p) (he : p.1 = id) : rem q id = q.eraseIdx idx := by
  induction q generalizing idx with
  | nil => simp at hp
  | cons a r ih =>
    rw [List.map_cons, List.nodup_cons] at hn
    cases idx with
    | zero =>
      simp at hp
      subst hp
      show List.filter _ (a :: r) = r
      rw [List.filter_cons_of_neg (by simpa using he)]
      exact rem_none (q := r) (fun p' hp' e => hn.1 (by rw [he, ← e]; exact List.mem_map_of_mem hp'))
    | succ j =>
      have hp' : r[j]? = some p := by simpa using hp
      have hm : p.1 ∈ r.map (·.1) := List.mem_map_of_mem (List.mem_of_getElem? hp')
      show List.filter _ (a :: r) = a :: r.eraseIdx j
      rw [List.filter_cons_of_pos (by
        have : a.1 ≠ id := fun e => hn.1 (by rw [e, ← he]; exact hm)
        simpa using this), ← ih hn.2 hp']
      rfl
theorem qc_len (q : List (Nat × Nat)) : (qcells q).length = q.length * 2 := by
  induction q with
  | nil => rfl
  | cons p r ih => show (qcells r).length + 2 = _; rw [ih, List.length_cons]; omega
theorem qc_one {q : List (Nat × Nat)} : ∀ v ∈ qcells q, v.oneCell' = true := fun v hv => by
  obtain ⟨p, _, hp⟩ := List.mem_flatMap.1 hv
  simp at hp
  rcases hp with rfl | rfl <;> rfl
theorem qc_get {q : List (Nat × Nat)} {j : Nat} {u : Value} (h : (qcells q)[j]? = some u) : ∃ p, q[j / 2]? = some p ∧ u = (if j % 2 = 0 then .int .u64 (p.1 : Int) else .int .i64 (p.2 : Int)) := by
  have hj := (List.getElem?_eq_some_iff.1 h).1
  rw [qc_len] at hj
  have hj2 : j / 2 < q.length := by omega
  have hp : q[j / 2]? = some q[j / 2] := List.getElem?_eq_getElem hj2
  refine ⟨_, hp, ?_⟩
  obtain ⟨x0, x1⟩ := qcell_at q (j / 2) _ hp
  by_cases e : j % 2 = 0
  · rw [if_pos e]
    rw [show j / 2 * 2 = j from by omega] at x0
    rw [x0] at h; cases h; rfl
  · rw [if_neg e]
    rw [show j / 2 * 2 + 1 = j from by omega] at x1
    rw [x1] at h; cases h; rfl
/-- A row of waiters, told place by place. -/
theorem slc_q {w : World} {b off cap n : Nat} {q : List (Nat × Nat)} (hl : q.length = n) (hb : b < w.heap.size) (hn : n ≤ cap) (hc : cap ≤ maxLen)
    (hx : ∀ t p, q[t]? = some p → w.cell? ⟨b, off + t * 2, none⟩ = some (.int .u64 (p.1 : Int)) ∧ w.cell? ⟨b, off + t * 2 + 1, none⟩ = some (.int .i64 (p.2 : Int)))
    (hsp : ∀ j, j < cap * 2 → (w.cell? ⟨b, off + j, none⟩).isSome = true ∧ w.frozen? ⟨b, off + j, none⟩ = false) : Slc w (some b) 2 (.slice (some ⟨b, off, none⟩) n cap) n (qcells q) :=
  ⟨by rw [qc_len, hl], qc_one, .inr ⟨b, off, cap, rfl, rfl, hb, hn, hc, fun j u hu => by
    obtain ⟨p, hp, rfl⟩ := qc_get hu
    obtain ⟨y0, y1⟩ := hx _ p hp
    by_cases e : j % 2 = 0
    · rw [if_pos e, show off + j = off + j / 2 * 2 from by omega]; exact y0
    · rw [if_neg e, show off + j = off + j / 2 * 2 + 1 from by omega]; exact y1, hsp⟩⟩
theorem q_at {w : World} {b off cap n : Nat} {q : List (Nat × Nat)} (h : Slc w (some b) 2 (.slice (some ⟨b, off, none⟩) n cap) n (qcells q)) : q.length = n ∧ b < w.heap.size ∧ n ≤ cap ∧ cap ≤ maxLen ∧
    (∀ t p, q[t]? = some p → w.cell? ⟨b, off + t * 2, none⟩ = some (.int .u64 (p.1 : Int)) ∧ w.cell? ⟨b, off + t * 2 + 1, none⟩ = some (.int .i64 (p.2 : Int))) ∧ (∀ j, j < cap * 2 → (w.cell? ⟨b, off + j, none⟩).isSome = true ∧ w.frozen? ⟨b, off + j, none⟩ = false) := by
  obtain ⟨h1, _, ⟨e, _⟩ | ⟨b', off', cap', e1, e2, hlt, hn, hcm, hx, hsp⟩⟩ := h
  · cases e
  cases e1; cases e2
  rw [qc_len] at h1
  refine ⟨by omega, hlt, hn, hcm, fun t p hp => ?_, hsp⟩
  obtain ⟨x0, x1⟩ := qcell_at q t p hp
  exact ⟨hx _ _ x0, by have := hx _ _ x1; rwa [← Nat.add_assoc] at this⟩
theorem cell_other2 {w : World} {b a c : Nat} {v : Value} (h : a ≠ c) : (w.setCell ⟨b, c, none⟩ v).cell? ⟨b, a, none⟩ = w.cell? ⟨b, a, none⟩ := World.cell?_setCell_other _ _ _ _ (by first | (simp; done) | (simp; omega))
theorem cell_same2 {w : World} {b c : Nat} {v : Value} (h : (w.cell? ⟨b, c, none⟩).isSome = true) : (w.setCell ⟨b, c, none⟩ v).cell? ⟨b, c, none⟩ = some v := by
  obtain ⟨u, hu⟩ := Option.isSome_iff_exists.1 h
  exact World.cell?_setCell_same _ _ _ hu
theorem some_setCell {w : World} {b a c : Nat} {v : Value} (h : (w.cell? ⟨b, a, none⟩).isSome = true) : ((w.setCell ⟨b, c, none⟩ v).cell? ⟨b, a, none⟩).isSome = true := by
  by_cases e : a = c
  · subst e; rw [cell_same2 h]; rfl
  · rw [cell_other2 e]; exact h
/-- One place is written. -/
theorem q_set {w : World} {b off cap n : Nat} {q : List (Nat × Nat)} (h : Slc w (some b) 2 (.slice (some ⟨b, off, none⟩) n cap) n (qcells q)) {t : Nat} (ht : t < n) (p : Nat × Nat) :
    Slc ((w.setCell ⟨b, off + t * 2, none⟩ (.int .u64 (p.1 : Int))).setCell ⟨b, off + t * 2 + 1, none⟩ (.int .i64 (p.2 : Int))) (some b) 2 (.slice (some ⟨b, off, none⟩) n cap) n (qcells (q.set t p)) := by
  obtain ⟨hl, hb, hn, hc, hx, hsp⟩ := q_at h
  refine slc_q (by rw [List.length_set]; exact hl) (by simpa [World.setCell] using hb) hn hc (fun t' p' hp' => ?_) (fun j hj => ⟨some_setCell (some_setCell (hsp j hj).1), by rw [World.frozen?_setCell, World.frozen?_setCell]; exact (hsp j hj).2⟩)
  have s0 := (hsp (t * 2) (by omega)).1
  have s1 := (hsp (t * 2 + 1) (by omega)).1
  rw [← Nat.add_assoc] at s1
  by_cases e : t' = t
  · subst e
    have : p' = p := by
      rw [List.getElem?_set_self (by omega)] at hp'
      simpa using hp'.symm
    subst this
    refine ⟨?_, cell_same2 (some_setCell s1)⟩
    rw [cell_other2 (by omega)]; exact cell_same2 s0
  · rw [List.getElem?_set_ne (by omega)] at hp'
    rw [cell_other2 (by omega), cell_other2 (by omega), cell_other2 (by omega), cell_other2 (by omega)]
    exact hx t' p' hp'
theorem q_take {w : World} {b off cap n : Nat} {q : List (Nat × Nat)} (h : Slc w (some b) 2 (.slice (some ⟨b, off, none⟩) n cap) n (qcells q)) {t : Nat} (ht : t ≤ n) : Slc w (some b) 2 (.slice (some ⟨b, off, none⟩) t cap) t (qcells (q.take t)) := by
  obtain ⟨hl, hb, hn, hc, hx, hsp⟩ := q_at h
  refine slc_q (by rw [List.length_take]; omega) hb (by omega) hc (fun t' p' hp' => hx t' p' ?_) hsp
  rw [List.getElem?_take] at hp'
  split at hp'
  · exact hp'
  · cases hp'
/-- The last place is cleared. -/
theorem clear_one {w : World} {b off cap r : Nat} {q : List (Nat × Nat)} (h : Slc w (some b) 2 (.slice (some ⟨b, off, none⟩) (r + 1) cap) (r + 1) (qcells q)) (c'' : Nat) :
    (∀ ty, (Builtin.clear_ #[67] ty #[.slice (some ⟨b, off + r * 2, none⟩) 1 c'']).run Try.prog w = .ok (.tuple #[]) (w.setCells b (off + r * 2) zeroW)) ∧
    Slc (w.setCells b (off + r * 2) zeroW) (some b) 2 (.slice (some ⟨b, off, none⟩) r cap) r (qcells (q.take r)) := by
  obtain ⟨hl, hb, hn, hc, hx, hsp⟩ := q_at h
  have hs : ∀ j, j < zeroW.length → (w.cell? ⟨b, off + r * 2 + j, none⟩).isSome = true := fun j hj => by
    have : j < 2 := hj
    have := (hsp (r * 2 + j) (by omega)).1
    rwa [← Nat.add_assoc] at this
  refine ⟨fun ty => ?_, ?_⟩
  · have hst := run_storeCells_cells (P := Try.prog) b (off + r * 2) zeroW 0 w (by simpa using hs) (fun j hj => by
        have : j < 2 := hj
        have := (hsp (r * 2 + j) (by omega)).2
        simpa [← Nat.add_assoc] using this) (fun v hv => by simp [zeroW] at hv; rcases hv with rfl | rfl <;> rfl)
    have hzc := zeroCells_one
    simp only [Nat.add_zero] at hst
    simp [Builtin.clear_, run_underlying Try.underlying67, hzc, hst, Result.andThen]
  · refine slc_q (by rw [List.length_take]; omega) (by rw [setCells_size]; exact hb) (by omega) hc (fun t' p' hp' => ?_) (fun j hj => ⟨?_, by rw [World.frozen?_setCells]; exact (hsp j hj).2⟩)
    · rw [List.getElem?_take] at hp'
      split at hp'
      · rw [World.cell?_setCells_out b zeroW _ _ _ (fun _ _ => .inl (by show off + t' * 2 < _; omega)), World.cell?_setCells_out b zeroW _ _ _ (fun _ _ => .inl (by show off + t' * 2 + 1 < _; omega))]
        exact hx t' p' hp'
      · cases hp'
    · by_cases hin : r * 2 ≤ j ∧ j < r * 2 + 2
      · have := World.cell?_setCells_in b zeroW (off + r * 2) w hs (j - r * 2) (by show j - r * 2 < 2; omega)
        rw [show off + r * 2 + (j - r * 2) = off + j from by omega] at this
        rw [this]; rfl
      · rw [World.cell?_setCells_out b zeroW _ _ _ (fun _ _ => by show off + j < off + r * 2 ∨ off + r * 2 + 2 ≤ off + j; omega)]
        exact (hsp j hj).1
theorem is_yes {w : World} {c id m : Nat} (hc : w.cell? ⟨c, 0, none⟩ = some (.int .u64 (id : Int))) :
    Calls Try.prog 40 #[.agg #[.int .u64 (id : Int), .int .i64 (m : Int)], .pointer (some ⟨c, 0, none⟩)] w fun e w' => e = .returned (.bool true) ∧ Below w.heap.size w w' := by
  have hlt := World.block_lt_of_cell? w _ hc
  go_enter Try.func40, Try.ntmps40
  go_wp2
  go_ret
  exact ⟨ret_bool (by simp), below_alloc _ _⟩
set_option maxHeartbeats 1000000 in
/-- One that is there is found. -/
theorem index_found {w : World} {qb : Option Nat} {ao : Option Addr} {n cap : Nat} {q : List (Nat × Nat)} (h : Slc w qb 2 (.slice ao n cap) n (qcells q)) (hn : q.length = n) {c id idx m : Nat} (hc : w.cell? ⟨c, 0, none⟩ = some (.int .u64 (id : Int))) (hq : ∀ p ∈ q.take idx, p.1 ≠ id) (hi : q[idx]? = some (id, m)) :
    Calls Try.prog 32 #[.slice ao n cap, .func (.func 40) #[] #[.pointer (some ⟨c, 0, none⟩)]] w fun e w' => e = .returned (.int .i64 (idx : Int)) ∧ Below w.heap.size w w' := by
  have hil : idx < n := by rw [← hn]; exact (List.getElem?_eq_some_iff.1 hi).1
  have H := Lib.hid h; have HN := Lib.hid hn; have HQ := Lib.hid hq; have HC := Lib.hid hc; have HIX := Lib.hid hi
  have hcm : n ≤ 9223372036854775807 := by
    obtain ⟨ao', cap', e, h1, h2, _⟩ := slc_form h
    cases e; unfold maxLen at h2; omega
  clear h hn hq hc hi
  go_enter Try.func32, Try.ntmps32
  go_wp2
  go_loopw [8] (fun i wr => ∃ j : Nat, j ≤ idx ∧ i = .int .i64 (j : Int) ∧ Hid (Below w.heap.size w wr)) (fun i _ => n - (intOf i).toNat)
  case atStart => exact ⟨0, Nat.zero_le _, rfl, Lib.hid (Below.refl _ _)⟩
  case round =>
    obtain ⟨j, hj, rfl, hb⟩ := hrel
    have hlt : j < n := by omega
    obtain ⟨p, hp⟩ : ∃ p, q[j]? = some p := ⟨q[j]'(by rw [HN.out]; exact hlt), List.getElem?_eq_getElem _⟩
    obtain ⟨_, _, ⟨_, _, h0⟩ | ⟨b, off, cap', _, e, _, _, _, hx, _⟩⟩ := H.out
    · omega
    cases e
    obtain ⟨x0, x1⟩ := qcell_at q j p hp
    have e0 := hx _ _ x0
    have e1 := hx _ _ x1
    have f0 : wr.cell? ⟨b, off + j * 2, none⟩ = some (.int .u64 (p.1 : Int)) := (hb.out.cell (World.block_lt_of_cell? w _ e0)).trans e0
    have f1 : wr.cell? ⟨b, off + j * 2 + 1, none⟩ = some (.int .i64 (p.2 : Int)) := (hb.out.cell (World.block_lt_of_cell? w _ e1)).trans e1
    by_cases hji : j = idx
    · subst hji
      obtain rfl : p = (id, m) := Option.some.inj (hp.symm.trans HIX.out)
      have HI := Lib.hid (is_yes (m := m) ((hb.out.cell (World.block_lt_of_cell? w _ HC.out)).trans HC.out))
      clear hx x0 x1 e0 e1 hp
      go_wp2_with (go_at_call 40; refine HI.out.mono ?_; rintro e w2 ⟨rfl, hb2⟩; have HB2 := Lib.hid (hb.out.trans (hb2.mono hb.out.size)); clear hb2)
      go_ret
      exact ⟨rfl, HB2.out⟩
    · have hne := HQ.out p (List.mem_take_iff_getElem.2 ⟨j, by rw [HN.out]; omega, by
        obtain ⟨h1, h2⟩ := List.getElem?_eq_some_iff.1 hp; exact h2⟩)
      have HI := Lib.hid (is_any (m := p.2) ((hb.out.cell (World.block_lt_of_cell? w _ HC.out)).trans HC.out) hne)
      clear hx x0 x1 e0 e1 hp hne
      go_wp2_with (go_at_call 40; refine HI.out.mono ?_; rintro e w2 ⟨rfl, hb2⟩; have HB2 := Lib.hid (hb.out.trans (hb2.mono hb.out.size)); clear hb2)
      go_roundw
      case rel => exact ⟨j + 1, by omega, by go_num, HB2⟩
      case measure => simp [intOf]; omega
/-- What DeleteFunc leaves. -/
def Without (w : World) (qb : Option Nat) (q : List (Nat × Nat)) (id : Nat) (e : Ending) (w' : World) : Prop := ∃ v, e = .returned v ∧ Slc w' qb 2 v (rem q id).length (qcells (rem q id)) ∧ Turned (fun k => qb = some k) w w'
theorem set_at {l q : List (Nat × Nat)} {n t : Nat} {p : Nat × Nat} (hl : l.length = n) (ht : t + 1 < n) (hp : q[t + 1]? = some p) (e : List (Nat × Nat)) (he : e[t]? = q[t + 1]?) (h1 : ∀ s, s < t → l[s]? = e[s]?) (h2 : ∀ s, t ≤ s → l[s]? = q[s]?) :
    (∀ s, s < t + 1 → (l.set t p)[s]? = e[s]?) ∧ (∀ s, t + 1 ≤ s → (l.set t p)[s]? = q[s]?) := by
  refine ⟨fun s hs => ?_, fun s hs => by rw [List.getElem?_set_ne (by omega)]; exact h2 s (by omega)⟩
  by_cases es : s = t
  · subst es; rw [List.getElem?_set_self (by omega), he, hp]
  · rw [List.getElem?_set_ne (by omega)]; exact h1 s (by omega)
set_option maxRecDepth 100000 in
set_option maxHeartbeats 4000000 in
/-- One that stands in a queue is taken out. -/
theorem deletefunc_yes {w : World} {qb : Option Nat} {v : Value} {n : Nat} {q : List (Nat × Nat)} (h : Slc w qb 2 v n (qcells q)) (hn : q.length = n) {c id idx m : Nat} (hc : w.cell? ⟨c, 0, none⟩ = some (.int .u64 (id : Int))) (hcb : qb ≠ some c) (hnd : (q.map (·.1)).Nodup) (hi : q[idx]? = some (id, m)) :
    Calls Try.prog 39 #[v, .func (.func 40) #[] #[.pointer (some ⟨c, 0, none⟩)]] w (Without w qb q id) := by
  have hil : idx < n := by rw [← hn]; exact (List.getElem?_eq_some_iff.1 hi).1
  have hne : ∀ t p, q[t]? = some p → t ≠ idx → p.1 ≠ id := fun t p hp ht e => by
    have h1 : (q.map (·.1))[t]? = some id := by rw [List.getElem?_map, hp, ← e]; rfl
    have h2 : (q.map (·.1))[idx]? = some id := by rw [List.getElem?_map, hi]; rfl
    exact ht ((List.getElem?_inj (by rw [List.length_map, hn]; have := (List.getElem?_eq_some_iff.1 hp).1; omega) hnd).1 (h1.trans h2.symm))
  have hrem := rem_erase hnd hi rfl
  have HIX := Lib.hid (fun ao cap (e : v = .slice ao n cap) => by
    have h' := h
    rw [e] at h'
    exact index_found h' hn hc (fun p hp => by
      obtain ⟨t, ht, rfl⟩ := List.mem_take_iff_getElem.1 hp
      exact hne t _ (List.getElem?_eq_getElem (by omega)) (by omega)) hi)
  obtain ⟨-, -, ⟨-, -, h0⟩ | ⟨b, off, cap, rfl, rfl, -, hnc, hcm, -, -⟩⟩ := _root_.id h
  · omega
  have d : ((idx : Int) == -1) = false := by first | (simp; done) | (simp; omega)
  obtain ⟨r, hr⟩ : ∃ r, n = r + 1 := ⟨n - 1, by omega⟩
  have HI := Lib.hid (HIX.out _ _ rfl)
  have HS := Lib.hid h; have HQ := Lib.hid hn; have HC := Lib.hid hc; have HNE := Lib.hid hne; have HREM := Lib.hid hrem; have HCB := Lib.hid hcb; have HRR := Lib.hid hr
  unfold maxLen at hcm
  generalize hR : Without w (some b) q id = R
  have HR := Lib.hid hR
  clear h hn hc hne hrem hnd hi HIX hR hcb hr
  go_enter Try.func39, Try.ntmps39
  go_wp2_with (go_at_call 32; refine HI.out.mono ?_; rintro e w2 ⟨rfl, hb2⟩; have HS2 := Lib.hid (slc_below HS.out hb2); have HC2 := Lib.hid ((hb2.cell (p := ⟨c, 0, none⟩) (World.block_lt_of_cell? w _ HC.out)).trans HC.out); have HB2 := Lib.hid hb2; clear hb2)
  go_loopw [5, 6] (fun i5 i6 wr => ∃ (t j : Nat) (l : List (Nat × Nat)), idx ≤ t ∧ j ≤ n ∧ i5 = .int .i64 (t : Int) ∧ i6 = .int .i64 (j : Int) ∧ Hid (j = t + 1) ∧ Hid (Slc wr (some b) 2 (.slice (some ⟨b, off, none⟩) n cap) n (qcells l)) ∧ Hid (∀ s, s < t → l[s]? = (q.eraseIdx idx)[s]?) ∧ Hid (∀ s, t ≤ s → l[s]? = q[s]?) ∧ Hid (Turned (fun k => k = b) w wr) ∧ Hid (wr.cell? ⟨c, 0, none⟩ = some (.int .u64 (id : Int)))) (fun _ i6 _ => n - (intOf i6).toNat)
  case atStart => exact ⟨idx, idx + 1, q, Nat.le_refl _, by omega, rfl, by go_num, Lib.hid rfl, HS2, Lib.hid (fun s hs => by rw [List.getElem?_eraseIdx_of_lt (by omega)]), Lib.hid (fun s _ => rfl), Lib.hid (Turned.of_below HB2.out), HC2⟩
  case round =>
    obtain ⟨t, j, l, ht1, ht2, rfl, rfl, hjt, hs, h1, h2, hT, hcc⟩ := hrel
    by_cases hlt : j < n
    · obtain ⟨hl, hbw, -, -, hx, hsp⟩ := q_at hs.out
      obtain ⟨p, hp⟩ : ∃ p, l[j]? = some p := ⟨l[j]'(by omega), List.getElem?_eq_getElem _⟩
      have hpq : q[j]? = some p := by rw [← h2.out _ (by have := hjt.out; omega)]; exact hp
      obtain ⟨f0, f1⟩ := hx _ _ hp
      have hpne := HNE.out _ _ hpq (by have := hjt.out; omega)
      have htn : t < n := by have := hjt.out; omega
      obtain ⟨u0, s0⟩ := Option.isSome_iff_exists.1 (hsp (t * 2) (by omega)).1
      obtain ⟨u1, s1⟩ := Option.isSome_iff_exists.1 (hsp (t * 2 + 1) (by omega)).1
      have z0 := (hsp (t * 2) (by omega)).2
      have z1 := (hsp (t * 2 + 1) (by omega)).2
      rw [← Nat.add_assoc] at s1 z1
      have hb3 := below_alloc wr (.cells #[.int .u64 (p.1 : Int), .int .i64 (p.2 : Int)] 74)
      have HIs := Lib.hid (is_any (m := p.2) ((hb3.cell (p := ⟨c, 0, none⟩) (World.block_lt_of_cell? wr _ hcc.out)).trans hcc.out) hpne)
      have HA0 : Hid ((wr.alloc (.cells #[.int .u64 (p.1 : Int), .int .i64 (p.2 : Int)] 74)).cell? ⟨wr.heap.size, 0, none⟩ = some (.int .u64 (p.1 : Int))) := Lib.hid ((cell_of_row _ _ 0 _ _ _ (cells_new wr 74 _)).trans rfl)
      have HA1 : Hid ((wr.alloc (.cells #[.int .u64 (p.1 : Int), .int .i64 (p.2 : Int)] 74)).cell? ⟨wr.heap.size, 1, none⟩ = some (.int .i64 (p.2 : Int))) := Lib.hid ((cell_of_row _ _ 1 _ _ _ (cells_new wr 74 _)).trans rfl)
      have HAL : Hid (wr.heap.size < (wr.alloc (.cells #[.int .u64 (p.1 : Int), .int .i64 (p.2 : Int)] 74)).heap.size) := Lib.hid (by rw [size_alloc]; omega)
      have HB3 := Lib.hid hb3; have HBW := Lib.hid hbw; have HL := Lib.hid hl; have HPQ := Lib.hid hpq; have HS0 := Lib.hid s0; have HS1 := Lib.hid s1; have HZ0 := Lib.hid z0; have HZ1 := Lib.hid z1
      clear hx hsp hp hb3 hpq hpne hl s0 s1 z0 z1
      go_wp2_with (first | (go_at_call 40; refine HIs.out.mono ?_; rintro e w3 ⟨rfl, hb4⟩; have b0 := (hb4.cell (p := ⟨wr.heap.size, 0, none⟩) HAL.out).trans HA0.out; have b1 := (hb4.cell (p := ⟨wr.heap.size, 1, none⟩) HAL.out).trans HA1.out; have hbb := HB3.out.trans (hb4.mono HB3.out.size); have s0' := (hbb.cell (p := ⟨b, off + t * 2, none⟩) HBW.out).trans HS0.out; have s1' := (hbb.cell (p := ⟨b, off + t * 2 + 1, none⟩) HBW.out).trans HS1.out; have z0' : w3.frozen? ⟨b, off + t * 2, none⟩ = false := (World.frozen?_of_block (a := ⟨b, off + t * 2, none⟩) (hbb.block b HBW.out)).trans HZ0.out; have z1' : w3.frozen? ⟨b, off + t * 2 + 1, none⟩ = false := (World.frozen?_of_block (a := ⟨b, off + t * 2 + 1, none⟩) (hbb.block b HBW.out)).trans HZ1.out; have HBB := Lib.hid hbb; clear hb4 hbb))
      have hjj : Hid (q[t + 1]? = some p) := Lib.hid (by rw [← hjt.out]; exact HPQ.out)
      have HSA := Lib.hid (set_at HL.out (by have := hjt.out; omega) hjj.out (q.eraseIdx idx) (by rw [List.getElem?_eraseIdx_of_ge (by omega)]) h1.out h2.out)
      have HTT : Hid (Turned (fun k => k = b) wr ((w3.setCell ⟨b, off + t * 2, none⟩ (.int .u64 (p.1 : Int))).setCell ⟨b, off + t * 2 + 1, none⟩ (.int .i64 (p.2 : Int)))) := Lib.hid (((Turned.of_below (E := fun k => k = b) HBB.out).setCell (p := ⟨b, off + t * 2, none⟩) (.inl rfl) _).setCell (p := ⟨b, off + t * 2 + 1, none⟩) (.inl rfl) _)
      go_roundw
      case rel => exact ⟨t + 1, j + 1, l.set t p, by omega, by omega, by go_num, by go_num, Lib.hid (by rw [hjt.out]), Lib.hid (q_set (slc_below hs.out HBB.out) htn p), Lib.hid HSA.out.1, Lib.hid HSA.out.2, Lib.hid (hT.out.trans HTT.out (Grows.refl _ _)), Lib.hid (cell_turned hcc.out HTT.out (fun e => HCB.out (by rw [e])))⟩
      case measure => simp [intOf]; omega
    · have hjn : n = j := by omega
      subst hjn
      have hs' := hs.out
      have e1 : n - t = 1 := by have := hjt.out; omega
      rw [hjt.out] at hs'
      obtain ⟨hrun, hsl⟩ := clear_one hs' (cap - t)
      rw [← e1] at hrun
      obtain ⟨hll, -, -, -, -, -⟩ := q_at hs.out
      have HFIN : Hid (Without w (some b) q id (.returned (.slice (some ⟨b, off, none⟩) t cap)) (wr.setCells b (off + t * 2) zeroW)) := Lib.hid (by
        have hel : (q.eraseIdx idx).length = t := by rw [List.length_eraseIdx, if_pos (by rw [HQ.out]; exact hil), HQ.out]; omega
        have hlt' : l.take t = q.eraseIdx idx := List.ext_getElem? (fun s => by
          rw [List.getElem?_take]
          split
          · exact h1.out s (by assumption)
          · rw [List.getElem?_eq_none (by omega)])
        have hrem : rem q id = q.eraseIdx idx := HREM.out
        refine ⟨_, rfl, ?_, (hT.out.trans (setCells_turned b _ _ _) (Grows.refl _ _)).mono (fun k e => by rw [e])⟩
        rw [hrem, hel, ← hlt']
        exact hsl)
      have htn : t ≤ n := by have := hjt.out; omega
      have hct : ¬ (cap = t) := by have := hjt.out; omega
      clear hs' e1 hsl hll
      go_wp2_with (refine wpList_clear_run rfl (.tmp 38) _ rfl _ _ rfl hrun ?_)
      rw [← HR.out]
      exact HFIN.out
/-- Whatever stands in a queue. -/
theorem deletefunc_any {w : World} {qb : Option Nat} {v : Value} {n : Nat} {q : List (Nat × Nat)} (h : Slc w qb 2 v n (qcells q)) (hn : q.length = n) {c id : Nat} (hc : w.cell? ⟨c, 0, none⟩ = some (.int .u64 (id : Int))) (hcb : qb ≠ some c) (hnd : (q.map (·.1)).Nodup) :
    Calls Try.prog 39 #[v, .func (.func 40) #[] #[.pointer (some ⟨c, 0, none⟩)]] w (Without w qb q id) := by
  by_cases he : ∃ p ∈ q, p.1 = id
  · obtain ⟨⟨o, m⟩, hp, rfl⟩ := he
    obtain ⟨idx, hi, hp'⟩ := List.mem_iff_getElem.1 hp
    exact deletefunc_yes h hn hc hcb hnd (idx := idx) (m := m) (by rw [List.getElem?_eq_getElem hi, hp'])
  · have hne : ∀ p ∈ q, p.1 ≠ id := fun p hp e => he ⟨p, hp, e⟩
    refine (deletefunc_not h hn hc hne).mono ?_
    rintro e w' ⟨rfl, hb⟩
    exact ⟨v, rfl, by rw [rem_none hne, hn]; exact slc_below h hb, Turned.of_below hb⟩
end Go.Proofs.Ythanjncpgcmnaaa

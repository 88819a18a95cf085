/- What Free calls: names put in order; a queue in which one does not stand. -/
import Derived.Test.YthanjncpgcmnaaaLckSrv
namespace Go.Proofs.Ythanjncpgcmnaaa
open Go.ChangeShapes Go.WideShapes Go.ChangeAt Go.RowKit Go.Maps Go.Sort Go.Shelf

theorem sort_row {W : World} {B : Nat} {v : Value} {ss : List (List UInt8)} (hrow : W.ownsRow B 9 1 v ss.length (ss.map encStr)) (hsz : ss.length < 8796093022208) :
    Calls Try.prog 38 #[v] W fun e w' => e = .returned (.tuple #[]) ∧ w'.ownsRow B 9 1 v ss.length ((ss.mergeSort fun x y => decide (x ≤ y)).map encStr) ∧ ∃ row, W.grownBy w' row ∧ ∀ b, row = some b → B ≤ b := by
  rcases hrow.2 with ⟨rfl, hz⟩ | ⟨gb, cap, cur, rfl, hbase, hgb, r1, r2, r3, r4⟩
  · have hss : ss = [] := List.eq_nil_of_length_eq_zero hz
    subst hss
    refine (sort_none none 0 W).mono ?_
    rintro e w' ⟨rfl, rfl⟩
    exact ⟨rfl, by simpa using hrow, none, World.grownBy.refl _ _, fun b e => by cases e⟩
  · have hH : Holds encStr W gb 0 ss.toArray := holds_of_block hgb (by simpa using r4)
    have hgl : gb < W.heap.size := (Array.getElem?_eq_some_iff.1 hgb).1
    refine (sort_any gb 0 cap ss W hH hgl (by omega)).mono ?_
    rintro e w' ⟨rfl, nn, os, rfl⟩
    exact ⟨rfl, ownsRow_sorted (by simp) hbase hgb r1 r2 r3, some gb, grownBy_sorted _, fun b e => by cases e; exact hbase⟩
/-- The closure that Free hands to DeleteFunc. -/
theorem is_any {w : World} {c id o m : Nat} (hc : w.cell? ⟨c, 0, none⟩ = some (.int .u64 (id : Int))) (h : o ≠ id) :
    Calls Try.prog 40 #[.agg #[.int .u64 (o : Int), .int .i64 (m : Int)], .pointer (some ⟨c, 0, none⟩)] w fun e w' => e = .returned (.bool false) ∧ Below w.heap.size w w' := by
  have hlt := World.block_lt_of_cell? w _ hc
  have d : ((o : Int) == (id : Int)) = false := by simp; omega
  clear h
  go_enter Try.func40, Try.ntmps40
  go_wp2
  go_ret
  exact ⟨rfl, below_alloc _ _⟩
theorem qcell_at (q : List (Nat × Nat)) : ∀ (j : Nat) (p : Nat × Nat), q[j]? = some p → (qcells q)[j * 2]? = some (.int .u64 (p.1 : Int)) ∧ (qcells q)[j * 2 + 1]? = some (.int .i64 (p.2 : Int)) := by
  induction q with
  | nil => intro j p h; simp at h
  | cons a r ih =>
    intro j p h
    cases j with
    | zero => simp at h; subst h; exact ⟨rfl, rfl⟩
    | succ j =>
      have := ih j p (by simpa using h)
      rw [qcells_cons, show (j + 1) * 2 = j * 2 + 2 from by omega]
      exact ⟨by simpa using this.1, by simpa using this.2⟩
theorem notfound {w : World} {e : Ending} {w' : World} (he : e = .returned (.int .i64 (-1))) (hb : Below w.heap.size w w') : e = .returned (.int .i64 (-1)) ∧ Below w.heap.size w w' := ⟨he, hb⟩
set_option maxHeartbeats 1000000 in
/-- One that is not there is not found. -/
theorem index_not {w : World} {qb : Option Nat} {ao : Option Addr} {n cap : Nat} {q : List (Nat × Nat)} (h : Slc w qb 2 (.slice ao n cap) n (qcells q)) (hn : q.length = n) {c id : Nat} (hc : w.cell? ⟨c, 0, none⟩ = some (.int .u64 (id : Int))) (hq : ∀ p ∈ q, p.1 ≠ id) :
    Calls Try.prog 32 #[.slice ao n cap, .func (.func 40) #[] #[.pointer (some ⟨c, 0, none⟩)]] w fun e w' => e = .returned (.int .i64 (-1)) ∧ Below w.heap.size w w' := by
  have H := Lib.hid h; have HN := Lib.hid hn; have HQ := Lib.hid hq; have HC := Lib.hid hc
  have hcm : n ≤ 9223372036854775807 := by
    obtain ⟨ao', cap', e, h1, h2, _⟩ := slc_form h
    cases e; unfold maxLen at h2; omega
  clear h hn hq hc
  go_enter Try.func32, Try.ntmps32
  go_wp2
  go_loopw [8] (fun i wr => ∃ j : Nat, j ≤ n ∧ i = .int .i64 (j : Int) ∧ Hid (Below w.heap.size w wr)) (fun i _ => n - (intOf i).toNat)
  case atStart => exact ⟨0, Nat.zero_le _, rfl, Lib.hid (Below.refl _ _)⟩
  case round =>
    obtain ⟨j, hj, rfl, hb⟩ := hrel
    by_cases hlt : j < n
    · obtain ⟨p, hp⟩ : ∃ p, q[j]? = some p := ⟨q[j]'(by rw [HN.out]; exact hlt), List.getElem?_eq_getElem _⟩
      obtain ⟨_, _, ⟨_, _, h0⟩ | ⟨b, off, cap', _, e, _, _, _, hx, _⟩⟩ := H.out
      · omega
      cases e
      obtain ⟨x0, x1⟩ := qcell_at q j p hp
      have e0 := hx _ _ x0
      have e1 := hx _ _ x1
      have f0 : wr.cell? ⟨b, off + j * 2, none⟩ = some (.int .u64 (p.1 : Int)) := (hb.out.cell (World.block_lt_of_cell? w _ e0)).trans e0
      have f1 : wr.cell? ⟨b, off + j * 2 + 1, none⟩ = some (.int .i64 (p.2 : Int)) := (hb.out.cell (World.block_lt_of_cell? w _ e1)).trans e1
      have hne := HQ.out p (List.mem_of_getElem? hp)
      have HI := Lib.hid (is_any (m := p.2) ((hb.out.cell (World.block_lt_of_cell? w _ HC.out)).trans HC.out) hne)
      clear hx x0 x1 e0 e1 hp hne
      go_wp2_with (go_at_call 40; refine HI.out.mono ?_; rintro e w2 ⟨rfl, hb2⟩; have HB2 := Lib.hid (hb.out.trans (hb2.mono hb.out.size)); clear hb2)
      go_roundw
      case rel => exact ⟨j + 1, by omega, by go_num, HB2⟩
      case measure => simp [intOf]; omega
    · have : j = n := by omega
      subst this
      go_wp2
      go_ret
      exact ⟨rfl, hb.out⟩
/-- A queue in which one does not stand stays. -/
theorem deletefunc_not {w : World} {qb : Option Nat} {v : Value} {n : Nat} {q : List (Nat × Nat)} (h : Slc w qb 2 v n (qcells q)) (hn : q.length = n) {c id : Nat} (hc : w.cell? ⟨c, 0, none⟩ = some (.int .u64 (id : Int))) (hq : ∀ p ∈ q, p.1 ≠ id) :
    Calls Try.prog 39 #[v, .func (.func 40) #[] #[.pointer (some ⟨c, 0, none⟩)]] w fun e w' => e = .returned v ∧ Below w.heap.size w w' := by
  obtain ⟨ao, cap, rfl, _⟩ := slc_form h
  have HI := Lib.hid (index_not h hn hc hq)
  clear h hn hc hq
  go_enter Try.func39, Try.ntmps39
  go_wp2_with (go_at_call 32; refine HI.out.mono ?_; rintro e w2 ⟨rfl, hb2⟩; have HB2 := Lib.hid hb2; clear hb2)
  go_ret
  exact ⟨rfl, HB2.out⟩
end Go.Proofs.Ythanjncpgcmnaaa

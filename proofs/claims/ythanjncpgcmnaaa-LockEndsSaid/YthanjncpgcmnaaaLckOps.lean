/- Ask and Free, whatever the table. -/
import Derived.Test.YthanjncpgcmnaaaLckInv
import Derived.Test.YthanjncpgcmnaaaLckLive
namespace Go.Proofs.Ythanjncpgcmnaaa
open Go.ChangeShapes Go.WideShapes Go.ChangeAt Go.RowKit

/-- What is wanted of a name, joined with what is held. -/
def wantM (S : St) (o : Nat) (nm : ByteArray) (m : Int) : Nat := if S.hold nm o = 0 then m.toNat else (joi (S.hold nm o) m).toNat
open Classical in
/-- What Ask does, and tells. -/
noncomputable def askF (S : St) (o : Nat) (nm : ByteArray) (m : Int) : St × Int :=
  if o = 0 ∨ isM m = false then (S, 1)
  else if (S.waits o).2 ≠ 0 then (S, 18)
  else if S.hold nm o ≠ 0 ∧ wantM S o nm m = S.hold nm o then (S, 0)
  else if (S.hold nm o ≠ 0 ∨ S.queue nm = []) ∧ Lets (S.hold nm) o (wantM S o nm m) then (granted S o nm (wantM S o nm m), 0)
  else (linedAt S o nm (if S.hold nm o = 0 then (S.queue nm).length else fst0 (S.hold nm) (S.queue nm)) (wantM S o nm m), 10)
theorem joi_m {a b : Int} (h1 : isM a = true) (h2 : isM b = true) : joi a b = ((joi a b).toNat : Int) ∧ 1 ≤ (joi a b).toNat ∧ (joi a b).toNat ≤ 4 := by
  rcases isM_nat h1 with rfl | rfl | rfl | rfl <;> rcases isM_nat h2 with rfl | rfl | rfl | rfl <;> decide
theorem wantM_m {S : St} {o : Nat} {nm : ByteArray} {m : Int} (hm : isM m = true) (hl : S.hold nm o ≤ 4) : 1 ≤ wantM S o nm m ∧ wantM S o nm m ≤ 4 := by
  unfold wantM
  split
  · rw [isM_iff] at hm; omega
  · rename_i h
    have := joi_m (a := S.hold nm o) (b := m) (by rw [isM_iff]; omega) hm
    exact this.2
theorem inv_ask {S : St} (I : Inv S) (hl : ∀ n o, S.hold n o ≤ 4) (o : Nat) (nm : ByteArray) (m : Int) : Inv (askF S o nm m).1 := by
  unfold askF
  split
  · exact I
  · rename_i h1
    have hm : isM m = true := by
      cases e : isM m
      · exact absurd (.inr e) h1
      · rfl
    split
    · exact I
    · rename_i h2
      have hw : (S.waits o).2 = 0 := Classical.byContradiction h2
      split
      · exact I
      · split
        · rename_i h4
          exact inv_granted I hw h4.2
        · exact inv_lined I _ hw (wantM_m hm (hl nm o)).1
section
variable {w : World} {g : Nat} {S : St} {x : Gh} {N : Nat} (H : Tab w g S x N)
include H
theorem does_same {r : Value} {e : Ending} {w' : World} (h : e = .returned r ∧ w = w') : Does w g S x (N + 1) r e w' := by
  obtain ⟨rfl, rfl⟩ := h
  exact ⟨x, rfl, H.mono (Nat.le_succ _), Steps.refl _ _⟩
theorem ask_all (hN : N + 20 < 8796093022208) {o : Nat} (ho : o < top) {nm : ByteArray} (hn : nm.size ≤ maxLen) (m : Int) :
    Calls Try.prog 13 #[.pointer (some ⟨g, 0, none⟩), .int .u64 (o : Int), .string nm, .int .i64 m] w (Does w g (askF S o nm m).1 x (N + 1) (.int .i64 (askF S o nm m).2)) := by
  unfold askF
  split
  · rename_i h
    exact (ask_arg H o nm m h).mono (fun e w' h => does_same H h)
  · rename_i h1
    have h0 : o ≠ 0 := fun e => h1 (.inl e)
    have hm : isM m = true := by
      cases e : isM m
      · exact absurd (.inr e) h1
      · rfl
    split
    · rename_i h2
      exact (ask_busy H o nm m ho h0 hm h2).mono (fun e w' h => does_same H h)
    · rename_i h2
      have hw : (S.waits o).2 = 0 := Classical.byContradiction h2
      have hW := wantM_m (S := S) (o := o) (nm := nm) hm (hold_le H nm o)
      obtain ⟨k, rfl⟩ : ∃ k : Nat, m = (k : Int) := ⟨m.toNat, by rw [isM_iff] at hm; omega⟩
      have hk : 1 ≤ k ∧ k ≤ 4 := by rw [isM_iff] at hm; omega
      have hl := hold_le H nm o
      by_cases hh : S.hold nm o = 0
      · have e1 : wantM S o nm k = k := by unfold wantM; rw [if_pos hh]; rfl
        rw [e1, if_neg (fun h => h.1 hh), if_pos hh]
        split
        · rename_i h4
          exact ask_first1 H o nm k hN ho h0 hn hm hw hh (h4.1.resolve_left (fun h => h hh)) hk h4.2
        · rename_i h4
          by_cases hq : S.queue nm = []
          · exact ask_new1 H o nm k hN ho h0 hn hm hw hh hk hq (fun h => h4 ⟨.inr hq, h⟩)
          · exact ask_line1 H o nm k hN ho h0 hn hm hw hh hk hq
      · have hj := joi_m (a := S.hold nm o) (b := k) (by rw [isM_iff]; omega) hm
        have e1 : wantM S o nm k = (joi (S.hold nm o) k).toNat := if_neg hh
        rw [if_neg hh]
        split
        · rename_i h3
          exact ask_same H o nm k (by omega) ho h0 hn hm hw hh (by rw [hj.1, ← e1, h3.2])
        · rename_i h3
          have hne : wantM S o nm k ≠ S.hold nm o := fun e => h3 ⟨hh, e⟩
          split
          · rename_i h4
            exact ask_more1 H o nm k _ hN ho h0 hn hm hw hh (by rw [e1]; exact hj.1) hW hne h4.2
          · rename_i h4
            exact ask_turn1 H o nm k _ hN ho h0 hn hm hw hh (by rw [e1]; exact hj.1) hne hW (fun h => h4 ⟨.inl hh, h⟩)
set_option maxRecDepth 100000 in
set_option maxHeartbeats 1000000 in
/-- One that is not there gives up nothing. -/
theorem free_none {id : Nat} (ho : id < top) (hk : x.ow id = none) :
    Calls Try.prog 16 #[.pointer (some ⟨g, 0, none⟩), .int .u64 (id : Int)] w fun e w' => e = .returned (.slice none 0 0) ∧ Below w.heap.size w w' := by
  have hb1 := below_alloc w (.cells #[.int .u64 (id : Int)] 27)
  have H1 := H.below hb1
  obtain ⟨c0, c1⟩ := tab_cells H1
  have ci : (w.alloc (.cells #[.int .u64 (id : Int)] 27)).cell? ⟨w.heap.size, 0, none⟩ = some (.int .u64 (id : Int)) := (cell_of_row _ _ 0 _ _ _ (cells_new w 27 #[.int .u64 (id : Int)])).trans rfl
  have hlk : ∀ n, (Instr.lookup 58 (.map (some x.om)) (.int .u64 (id : Int)) false).run Try.prog ((w.alloc (.cells #[.int .u64 (id : Int)] 27)).drewN n) = .ok (.pointer none) ((w.alloc (.cells #[.int .u64 (id : Int)] 27)).drewN n) := fun n => by
    have := look_ow (H1.below (below_drew1 _ n)).owners ho
    rw [hk] at this
    exact this
  have hgs : g < w.heap.size := cells_lt H.cells
  clear hb1 H1 H ho hk
  go_enter Try.func16, Try.ntmps16
  go_wp2
  go_quiet (fail)
  go_wp2
  go_ret
  exact ⟨rfl, below_drewN (below_alloc w _) nq⟩
/-- What Free tells, whoever it is. -/
def FreeAll (W : World) (g : Nat) (S : St) (x : Gh) (N : Nat) (id : Nat) (e : Ending) (w' : World) : Prop :=
  ∃ ns S' x' outs v bo, e = .returned v ∧ Names (want S id) ns ∧ All ns (freedG S id) S' outs ∧ Tab w' g S' x' N ∧ Steps W w' x x' ∧ Inv S' ∧ Slc w' bo 1 v outs.length (u64s outs) ∧ ∀ b, bo = some b → W.heap.size ≤ b ∧ x'.who b = .out
theorem freed_none (I : Inv S) {id : Nat} (hk : x.ow id = none) : freedG S id = S ∧ ∀ n, want S id n = 0 := by
  obtain ⟨h1, h2⟩ := H.owners.none id hk
  have hh : ∀ n, S.hold n id = 0 := fun n => by rw [I.cons]; exact h1 n
  have hq : ∀ n, rem (S.queue n) id = S.queue n := fun n => rem_none (fun p hp e => I.out (o := id) (by rw [h2]) n p.2 (by rw [← e]; exact hp))
  refine ⟨?_, fun n => Classical.byContradiction fun h => ?_⟩
  · show St.mk _ _ _ _ = _
    have e1 : (fun n o => if o = id then 0 else S.hold n o) = S.hold := by
      funext n o
      by_cases e : o = id
      · subst e; rw [if_pos rfl, hh]
      · rw [if_neg e]
    have e2 : (fun n => rem (S.queue n) id) = S.queue := funext hq
    have e3 : upd S.held id (fun _ => 0) = S.held := by
      rw [show (fun _ => 0) = S.held id from (funext h1).symm]; exact upd_self _ _
    have e4 : upd S.waits id (⟨#[]⟩, 0) = S.waits := by rw [← h2]; exact upd_self _ _
    rw [e1, e2, e3, e4]
  · rcases want_iff.1 h with h | h
    · exact h (h1 n)
    · exact h.1 (by rw [h2])
theorem free_all (I : Inv S) (hN : N + 1 < 8796093022208) {id : Nat} (ho : id < top) :
    Calls Try.prog 16 #[.pointer (some ⟨g, 0, none⟩), .int .u64 (id : Int)] w (FreeAll w g S x N id) := by
  cases hk : x.ow id with
  | none =>
    obtain ⟨e1, e2⟩ := freed_none H I hk
    refine (free_none H ho hk).mono ?_
    rintro e w' ⟨rfl, hb⟩
    exact ⟨[], S, x, [], _, none, rfl, names_nil e2, by rw [e1]; exact .start, H.below hb, Steps.below _ hb, I, slc_nil _ _, fun b e => by cases e⟩
  | some kk =>
    obtain ⟨U, hl, hU⟩ := owners_list H
    have IF := inv_freed I id
    refine (freeg_any H hN I.wf ho hk (fun n => I.cons n id) (I.back id) (fun ns S' outs hall => ?_)).mono ?_
    · have hs := served_all IF hall
      refine Nat.le_trans (nodup_len hs.nd (U := U) (fun o hm => ?_)) (by omega)
      have h1 := (hs.was o hm).1
      have h2 : (S.waits o).2 ≠ 0 := by
        have h1' : (upd S.waits id (⟨#[]⟩, 0) o).2 ≠ 0 := h1
        by_cases e : o = id
        · subst e; rw [upd_same] at h1'; exact absurd rfl h1'
        · rwa [upd_other _ _ e] at h1'
      exact hU o (top_of_waits H I h2) (ow_of_waits H h2)
    · rintro e w' ⟨ns, S', x', outs, v, bo, he, h1, h2, h3, h4, _, h6, h7⟩
      exact ⟨ns, S', x', outs, v, bo, he, h1, h2, h3, h4, (served_all IF h2).inv, h6, h7⟩
end
end Go.Proofs.Ythanjncpgcmnaaa

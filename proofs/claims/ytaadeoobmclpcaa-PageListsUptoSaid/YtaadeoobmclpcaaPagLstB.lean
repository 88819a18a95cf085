/- PageLists: what its walk leans on: rows of values appended. -/
import Derived.Test.YtaadeoobmclpcaaPagLstA
import Derived.Test.YtaadeoobmclpcaaPagKeptB
import Derived.Deep.RegionHeld3
import Derived.Deep.DrawnRows
import Derived.Deep.RegionLaw
namespace Go.Proofs.Ytaadeoobmclpcaa
open Go.ChangeShapes Go.WideShapes Go.ChangeAt Go.RowKit

theorem info24 : (Try.prog.info? 24).map (fun i => (i.zero, i.size, i.bytes)) = some (some (.slice none 0 0), 1, 24) := by kernel_rfl
/-- Slices of bytes that read as these, as values. -/
def Vals (w : World) (vs : List Value) (ls : List (List Nat)) : Prop := vs.length = ls.length ∧ ∀ k, (h : k < ls.length) → ∃ a c, vs[k]? = some (Value.slice a ls[k].length c) ∧ BytesAt w a ls[k]
theorem vals_nil (w : World) : Vals w [] [] := ⟨rfl, fun _ h => absurd h (Nat.not_lt_zero _)⟩
theorem vals_below {w w' : World} {vs : List Value} {ls : List (List Nat)} (h : Vals w vs ls) (hb : Below w.heap.size w w') : Vals w' vs ls :=
  ⟨h.1, fun k hk => by obtain ⟨a, c, h1, h2⟩ := h.2 k hk; exact ⟨a, c, h1, bytes_below h2 hb⟩⟩
theorem vals_append {w : World} {vs us : List Value} {ls ms : List (List Nat)} (h : Vals w vs ls) (h' : Vals w us ms) : Vals w (vs ++ us) (ls ++ ms) := by
  refine ⟨by rw [List.length_append, List.length_append, h.1, h'.1], fun k hk => ?_⟩
  by_cases hlt : k < ls.length
  · obtain ⟨a, c, h1, h2⟩ := h.2 k hlt
    refine ⟨a, c, ?_, ?_⟩
    · rw [List.getElem?_append_left (by rw [h.1]; exact hlt), h1, List.getElem_append_left hlt]
    · rw [List.getElem_append_left hlt]; exact h2
  · have hk' : k - ls.length < ms.length := by rw [List.length_append] at hk; omega
    obtain ⟨a, c, h1, h2⟩ := h'.2 (k - ls.length) hk'
    refine ⟨a, c, ?_, ?_⟩
    · rw [List.getElem?_append_right (by rw [h.1]; omega), h.1, h1, List.getElem_append_right (by omega)]
    · rw [List.getElem_append_right (by omega)]; exact h2
theorem vals_one {w : World} {a : Option Addr} {l : List Nat} (c : Nat) (h : BytesAt w a l) : Vals w [Value.slice a l.length c] [l] :=
  ⟨rfl, fun k hk => by obtain rfl : k = 0 := by simp at hk; exact hk
                       exact ⟨a, c, rfl, h⟩⟩
theorem vals_cell {w : World} {vs : List Value} {ls : List (List Nat)} (h : Vals w vs ls) : ∀ u ∈ vs, u.oneCell' = true := by
  intro u hu
  obtain ⟨k, hk, rfl⟩ := List.mem_iff_getElem.1 hu
  obtain ⟨a, c, h1, _⟩ := h.2 k (by rw [← h.1]; exact hk)
  rw [List.getElem?_eq_getElem hk] at h1
  rw [Option.some.inj h1]
  rfl
/-- What a slice of byte slices holds, as values. -/
theorem rowsB_vals {w : World} {ao : Option Addr} {ls : List (List Nat)} (h : RowsB w ao ls) : ∃ vs, Vals w vs ls ∧ ∀ ad, ao = some ad → ∀ j u, vs[j]? = some u → w.cell? (ad.add j) = some u := by
  have hex : ∀ k : Nat, ∃ v, (hk : k < ls.length) → (∃ a c, v = Value.slice a ls[k].length c ∧ BytesAt w a ls[k]) ∧ ∀ ad, ao = some ad → w.cell? (ad.add k) = some v := by
    intro k
    by_cases hk : k < ls.length
    · obtain ⟨G, off, a, c, rfl, hc, hby⟩ := h k hk
      refine ⟨Value.slice a ls[k].length c, fun _ => ⟨⟨a, c, rfl, hby⟩, fun ad e => ?_⟩⟩
      cases e
      have : (⟨G, off, none⟩ : Addr).add k = ⟨G, off + k, none⟩ := by unfold Addr.add; split <;> simp_all
      rw [this]; exact hc
    · exact ⟨.bool false, fun h' => absurd h' hk⟩
  refine ⟨(List.range ls.length).map (fun k => Classical.choose (hex k)), ⟨by simp, fun k hk => ?_⟩, fun ad e j u hu => ?_⟩
  · obtain ⟨⟨a, c, h1, h2⟩, _⟩ := Classical.choose_spec (hex k) hk
    refine ⟨a, c, ?_, h2⟩
    rw [List.getElem?_map, List.getElem?_range hk, Option.map_some, h1]
  · rw [List.getElem?_map] at hu
    by_cases hj : j < ls.length
    · rw [List.getElem?_range hj, Option.map_some] at hu
      obtain rfl := Option.some.inj hu
      exact (Classical.choose_spec (hex j) hj).2 ad e
    · rw [List.getElem?_eq_none (by simpa using hj)] at hu
      cases hu
theorem vals_rowsB {w : World} {base g n c : Nat} {vs : List Value} {ls : List (List Nat)} (h : w.ownsRow base 24 1 (.slice (some ⟨g, 0, none⟩) n c) n vs) (hv : Vals w vs ls) : RowsB w (some ⟨g, 0, none⟩) ls := fun k hk => by
  obtain ⟨a, c', h1, h2⟩ := hv.2 k hk
  refine ⟨g, 0, a, c', rfl, ?_, h2⟩
  have := h.cells (g := g) rfl k _ h1
  have e : (⟨g, 0, none⟩ : Addr).add k = ⟨g, 0 + k, none⟩ := by unfold Addr.add; split <;> simp_all
  rwa [e] at this
/-- append of whatever values to a row of one's own, as a step of a region that draws. -/
theorem step_append_vals {ops : Array Oper} {o : Oper} {a : Act} {w : World} {K : Act → World → Prop} {Q : Exit → Act → World → Prop} {E : Prop} (hgd : o.guard = none) (s x : Operand)
    (ho : o.op = .call { callee := .builtin .append, args := #[s, x], argTypes := #[28, 28] })
    (base g k c0 : Nat) (xs : List Value) (hs : a.eval s = .slice (some ⟨g, 0, none⟩) k c0) (hown : w.ownsRow base 24 1 (.slice (some ⟨g, 0, none⟩) k c0) k xs)
    (ca : Option Addr) (m cc : Nat) (vs : List Value) (hx : a.eval x = .slice ca m cc) (hlm : vs.length = m) (hn : ca = none → cc = 0 ∧ m = 0) (hcell : ∀ ad, ca = some ad → ∀ j u, vs[j]? = some u → w.cell? (ad.add j) = some u) (h1 : ∀ u ∈ vs, u.oneCell' = true)
    (r : Nat) (hr : k + m = r) (hsm : r ≤ 1000) (hbase : base ≤ w.heap.size)
    (h : ∀ g' c' w', w'.ownsRow base 24 1 (.slice (some ⟨g', 0, none⟩) r c') r (xs ++ vs) → w.grownBy w' (some g) → K (a.put o.dst (.slice (some ⟨g', 0, none⟩) r c')) w') :
    if Region.wanted o (yielded ops a.tmps) = true then Oper.wp Try.prog o a w K Q else E := by
  subst hr
  obtain ⟨i0, hi, hz0, hz1, hz2⟩ := info_parts info24
  have hw : Region.wanted o (yielded ops a.tmps) = true := by simp [Region.wanted, hgd]
  rw [if_pos hw]
  cases ca with
  | none =>
    obtain ⟨rfl, rfl⟩ := hn rfl
    obtain rfl : vs = [] := List.length_eq_zero_iff.1 hlm
    have hrun := run_append_owned_none (P := Try.prog) (w := w) base 28 o.type 24 i0 1 Try.underlying28 hi _ k xs hown
    unfold Oper.wp
    simp [execOp, ho, resolve, invoke, builtin, hs, hx, hrun, Result.andThen]
    have := h g c0 w (by rw [List.append_nil]; exact hown) (World.grownBy.refl w _)
    exact this
  | some ad =>
    obtain ⟨v', w', hrun, hown', hg, hnil⟩ := run_append_own (P := Try.prog) w base 28 o.type 24 i0 (.slice none 0 0) 1 24 Try.underlying28 hi hz0 hz1 hz2 rfl (by decide) _ k xs hown ad m cc vs (by omega) (hcell ad rfl) h1 (by unfold maxLen; omega) (by omega) hbase
    have hne : v' ≠ .slice none 0 0 := fun h' => by have := (hnil.1 h').1; cases this
    rcases hown'.2 with ⟨h', _⟩ | ⟨g', c', cur, rfl, _⟩
    · exact absurd h' hne
    · unfold Oper.wp
      simp [execOp, ho, resolve, invoke, builtin, hs, hx, hrun, Result.andThen]
      exact h g' c' w' hown' hg
theorem own_mk (W : World) : (W.alloc (.cells #[] 24)).ownsRow W.heap.size 24 1 (.slice (some ⟨W.heap.size, 0, none⟩) 0 0) 0 [] := World.ownsRow_made W #[] 0 (Nat.le_refl _) (Nat.zero_le _) rfl
theorem size_alloc (W : World) (o : Obj) : (W.alloc o).heap.size = W.heap.size + 1 := by simp
theorem own_mk1 (W : World) (o : Obj) : ((W.alloc o).alloc (.cells #[] 24)).ownsRow W.heap.size 24 1 (.slice (some ⟨W.heap.size + 1, 0, none⟩) 0 0) 0 [] := by
  have := World.ownsRow_made (base := W.heap.size) (e := 24) (size := 1) (W.alloc o) #[] 0 (by rw [size_alloc]; omega) (Nat.zero_le _) rfl
  rw [size_alloc] at this
  exact this
theorem cell_mk (W : World) (v : Value) (t : TypeId) : (W.alloc (.cells #[v] t)).cell? ⟨W.heap.size, 0, none⟩ = some v := by
  rw [cell_of_row _ _ 0 _ _ _ (heap_alloc_new W _)]
  rfl
theorem cell_mk1 (W : World) (o : Obj) (v : Value) (t : TypeId) : ((W.alloc o).alloc (.cells #[v] t)).cell? ⟨W.heap.size + 1, 0, none⟩ = some v := by
  have := cell_mk (W.alloc o) v t
  rwa [size_alloc] at this
theorem cell_mk0 (W : World) (o : Obj) (v : Value) (t : TypeId) : ((W.alloc (.cells #[v] t)).alloc o).cell? ⟨W.heap.size, 0, none⟩ = some v := by
  have := ((Below.refl (W.alloc (.cells #[v] t)).heap.size _).alloc (Nat.le_refl _) o).cell (p := ⟨W.heap.size, 0, none⟩) (by simp)
  rw [this]; exact cell_mk W v t
theorem one_cell {w : World} {blk : Nat} {v : Value} (h : w.cell? ⟨blk, 0, none⟩ = some v) : ∀ ad, some (⟨blk, 0, none⟩ : Addr) = some ad → ∀ j u, [v][j]? = some u → w.cell? (ad.add j) = some u := by
  intro ad e j u hu
  cases e
  cases j with
  | zero =>
    cases hu
    have e : (⟨blk, 0, none⟩ : Addr).add 0 = ⟨blk, 0, none⟩ := by unfold Addr.add; split <;> simp_all
    rw [e]; exact h
  | succ j => simp at hu
theorem vals_take {w : World} {vs : List Value} {ls : List (List Nat)} (h : Vals w vs ls) (j : Nat) : Vals w (vs.take j) (ls.take j) := by
  refine ⟨by rw [List.length_take, List.length_take, h.1], fun k hk => ?_⟩
  have hk' : k < j ∧ k < ls.length := by rw [List.length_take] at hk; omega
  obtain ⟨a, c, h1, h2⟩ := h.2 k hk'.2
  rw [List.getElem_take]
  exact ⟨a, c, by rw [List.getElem?_take, if_pos hk'.1]; exact h1, h2⟩
theorem vals_drop {w : World} {vs : List Value} {ls : List (List Nat)} (h : Vals w vs ls) (j : Nat) : Vals w (vs.drop j) (ls.drop j) := by
  refine ⟨by rw [List.length_drop, List.length_drop, h.1], fun k hk => ?_⟩
  have hk' : j + k < ls.length := by rw [List.length_drop] at hk; omega
  obtain ⟨a, c, h1, h2⟩ := h.2 (j + k) hk'
  rw [List.getElem_drop]
  exact ⟨a, c, by rw [List.getElem?_drop]; exact h1, h2⟩
/-- A slice's cells, up to a place and from a place on. -/
def Src (V : World) (ao : Option Addr) (vs : List Value) : Prop := ∀ ad, ao = some ad → ∀ j u, vs[j]? = some u → V.cell? (ad.add j) = some u
theorem src_take {V : World} {ao : Option Addr} {vs : List Value} (h : Src V ao vs) (j : Nat) : Src V ao (vs.take j) := fun ad e i u hu => by
  rw [List.getElem?_take] at hu
  split at hu
  · exact h ad e i u hu
  · cases hu
theorem src_drop {V : World} {b off : Nat} {vs : List Value} (h : Src V (some ⟨b, off, none⟩) vs) (j : Nat) : Src V (some ⟨b, off + j, none⟩) (vs.drop j) := fun ad e i u hu => by
  cases e
  rw [List.getElem?_drop] at hu
  have := h _ rfl (j + i) u hu
  have e1 : (⟨b, off, none⟩ : Addr).add (j + i) = ⟨b, off + (j + i), none⟩ := by unfold Addr.add; split <;> simp_all
  have e2 : (⟨b, off + j, none⟩ : Addr).add i = ⟨b, off + j + i, none⟩ := by unfold Addr.add; split <;> simp_all
  rw [e1, ← Nat.add_assoc] at this
  rw [e2]; exact this
/-- What a block holds is still there. -/
theorem src_below {w w' : World} {ao : Option Addr} {vs : List Value} (h : Src w ao vs) (hb : Below w.heap.size w w') : Src w' ao vs := fun ad e j u hu => by
  have hc := h ad e j u hu
  exact (hb.cell (World.block_lt_of_cell? w _ hc)).trans hc
theorem below_grown {w a b : World} {g : Nat} (h : Below w.heap.size w a) (hg : a.grownBy b (some g)) (hgb : w.heap.size ≤ g) : Below w.heap.size w b := h.grown hg h.size (fun k hk => by cases hk; exact hgb)
theorem slice_to (V : World) (no : Option Addr) (n nc j : Nat) (h : j ≤ nc) (hno : no = none ∨ ∃ b off, no = some ⟨b, off, none⟩) : (Instr.slice 28 (.slice no n nc) none (some (.int .i64 j)) none).run Try.prog V = .ok (.slice no j nc) V := by
  rcases hno with rfl | ⟨b, off, rfl⟩ <;> simp [go_sem, Try.underlying28, h]
theorem slice_from (no : Option Addr) (n nc j : Nat) (h : j ≤ n) (h' : n ≤ nc) (hno : (no = none ∧ nc = 0) ∨ ∃ b off, no = some ⟨b, off, none⟩) : ∃ a2 c2, (∀ V, (Instr.slice 28 (.slice no n nc) (some (.int .i64 j)) none none).run Try.prog V = .ok (.slice a2 (n - j) c2) V) ∧ (a2 = none → c2 = 0 ∧ n - j = 0) ∧
    ∀ V vs, vs.length = n → Src V no vs → Src V a2 (vs.drop j) := by
  rcases hno with ⟨rfl, rfl⟩ | ⟨b, off, rfl⟩
  · refine ⟨none, 0 - j, fun V => ?_, fun _ => by omega, fun V vs hl hs ad e => by cases e⟩
    simp [go_sem, Try.underlying28, h]
  · by_cases e : nc = j
    · refine ⟨some ⟨b, off, none⟩, nc - j, fun V => ?_, (fun h => by cases h), fun V vs hl hs => ?_⟩
      · simp [go_sem, Try.underlying28, h, e]
      · rw [List.drop_eq_nil_of_le (by omega)]
        intro ad _ i u hu
        simp at hu
    · refine ⟨some ⟨b, off + j, none⟩, nc - j, fun V => ?_, (fun h => by cases h), fun V vs hl hs => src_drop hs j⟩
      simp [go_sem, Try.underlying28, h, e]
end Go.Proofs.Ytaadeoobmclpcaa

/- What is told of any page is nothing, or new memory: contracts. -/
import Derived.Test.YtaadeoobmclpcaaPagCellB
import Derived.Test.YtaadeoobmclpcaaPagReplace
import Derived.Test.YtaadeoobmclpcaaPagMathB
namespace Go.Proofs.Ytaadeoobmclpcaa
open Go.ChangeShapes Go.WideShapes Go.ChangeAt Go.RowKit

theorem sealed_length {zs : List Nat} (hz : ∀ c ∈ zs, c < 256) (hg : Good zs) (x : Nat) : (sealed zs x).length = 512 := by
  rw [sealed_is hz (by rw [hg.1]; decide), stamped_length]; exact hg.1
/-- A slice of bytes that was made, or none: its block, its bytes. -/
def RV (r : Option Nat × List Nat) : Value := match r.1 with
  | none => .slice none 0 0
  | some g => .slice (some ⟨g, 0, none⟩) r.2.length r.2.length
/-- Where they lie. -/
def RowAt (B : Nat) (w : World) (r : Option Nat × List Nat) : Prop := (r.1 = none ∧ r.2 = []) ∨ ∃ g, r.1 = some g ∧ Cells w g 5 (u8c r.2) ∧ B ≤ g ∧ r.2.length ≤ 512
/-- What is told is nothing, or new memory. -/
def Kept (w : World) (e : Ending) (w' : World) : Prop := ∃ r code, e = .returned (.tuple #[RV r, .int .i64 code]) ∧ RowAt w.heap.size w' r ∧ Below w.heap.size w w'
theorem kept_page {w : World} {l : List Nat} {e : Ending} {w' : World} (hl : l.length = 512) (h : PageOut w l e w') : Kept w e w' := by
  obtain ⟨g, rfl, hc, hs, hb⟩ := h
  exact ⟨(some g, l), 0, by rw [RV]; simp only [hl], .inr ⟨g, rfl, hc, hs, by show l.length ≤ 512; omega⟩, hb⟩
theorem kept_nil {w : World} {c : Int} {e : Ending} {w' : World} (h : e = .returned (.tuple #[.slice none 0 0, .int .i64 c]) ∧ Below w.heap.size w w') : Kept w e w' :=
  ⟨(none, []), c, h.1, .inl ⟨rfl, rfl⟩, h.2⟩
attribute [local irreducible] insOf repOf removed relaid sealed
theorem kept_insert {gs off cap ccap : Nat} {ca : Option Addr} {zs cs : List Nat} (i : Int) {w : World} (hb : BytesAt w (some ⟨gs, off, none⟩) zs) (hcap : zs.length ≤ cap) (hc63 : cap ≤ maxLen) (hc : BytesAt w ca cs) :
    Calls Try.prog 7 #[.slice (some ⟨gs, off, none⟩) zs.length cap, .int .i64 i, .slice ca cs.length ccap] w (Kept w) := by
  by_cases hg : Good zs
  · have hl := hg.1
    rw [hl] at hcap ⊢
    unfold maxLen at hc63
    by_cases hi : i < 0 ∨ (rd zs 14 2 : Int) < i
    · exact (insert_arg i _ hb hg hi).mono fun _ _ => kept_nil
    · obtain ⟨k, rfl⟩ := Int.eq_ofNat_of_zero_le (show 0 ≤ i by omega)
      by_cases hf : 30 + 4 * rd zs 14 2 + sizes zs (rd zs 14 2) + cs.length ≤ 512
      · exact (insert_any k hb hcap (by omega) hg hc (by omega) hf).mono fun _ _ => kept_page (insOf_length hg (by omega) hf)
      · exact (insert_full k hb hg hc.2.1 (by omega) (by omega)).mono fun _ _ => kept_nil
  · exact (Insert_bad i _ hb hg).mono fun _ _ => kept_nil
theorem kept_remove {gs off cap : Nat} {zs : List Nat} (i : Int) {w : World} (hb : BytesAt w (some ⟨gs, off, none⟩) zs) :
    Calls Try.prog 8 #[.slice (some ⟨gs, off, none⟩) zs.length cap, .int .i64 i] w (Kept w) := by
  by_cases hg : Good zs
  · have hl := hg.1
    rw [hl]
    by_cases hi : i < 0 ∨ (rd zs 14 2 : Int) ≤ i
    · exact (remove_arg i hb hg hi).mono fun _ _ => kept_nil
    · obtain ⟨k, rfl⟩ := Int.eq_ofNat_of_zero_le (show 0 ≤ i by omega)
      exact (remove_good k hb hg (by omega)).mono fun _ _ => kept_page (removed_length hg (by omega))
  · exact (Remove_bad i hb hg).mono fun _ _ => kept_nil
theorem kept_replace {gs off cap ccap : Nat} {ca : Option Addr} {zs cs : List Nat} (i : Int) {w : World} (hb : BytesAt w (some ⟨gs, off, none⟩) zs) (hc : BytesAt w ca cs) :
    Calls Try.prog 9 #[.slice (some ⟨gs, off, none⟩) zs.length cap, .int .i64 i, .slice ca cs.length ccap] w (Kept w) := by
  by_cases hg : Good zs
  · have hl := hg.1
    rw [hl]
    by_cases hi : i < 0 ∨ (rd zs 14 2 : Int) ≤ i
    · exact (replace_arg i _ hb hg hi).mono fun _ _ => kept_nil
    · obtain ⟨k, rfl⟩ := Int.eq_ofNat_of_zero_le (show 0 ≤ i by omega)
      by_cases hle : cs.length ≤ rd zs (28 + 4 * k) 2
      · exact (replace_in k hb hg hc (by omega) hle).mono fun _ _ => kept_page (repOf_length hb.1 hg (by omega) (.inl hle))
      · by_cases hf : 26 + 4 * rd zs 14 2 + sizes zs (rd zs 14 2) + cs.length ≤ 512 + rd zs (28 + 4 * k) 2
        · exact (replace_grow k hb hg hc (by omega) (by omega) hf).mono fun _ _ => kept_page (repOf_length hb.1 hg (by omega) (.inr hf))
        · exact (replace_full k hb hg hc (by omega) (by omega) (by omega)).mono fun _ _ => kept_nil
  · exact (Replace_bad i _ hb hg).mono fun _ _ => kept_nil
theorem kept_compact {gs off cap : Nat} {zs : List Nat} {w : World} (hb : BytesAt w (some ⟨gs, off, none⟩) zs) (hcap : zs.length ≤ cap) (hc63 : cap ≤ maxLen) :
    Calls Try.prog 6 #[.slice (some ⟨gs, off, none⟩) zs.length cap] w (Kept w) := by
  by_cases hg : Good zs
  · have hl := hg.1
    rw [hl] at hcap ⊢
    unfold maxLen at hc63
    exact (compact_good hb hcap (by omega) hg).mono fun _ _ => kept_page (relaid_length hg)
  · exact (Compact_bad hb hg).mono fun _ _ => kept_nil
theorem kept_cell {gs off cap : Nat} {zs : List Nat} (i : Int) {w : World} (hb : BytesAt w (some ⟨gs, off, none⟩) zs) (hcap : zs.length ≤ cap) (hc63 : cap ≤ maxLen) :
    Calls Try.prog 14 #[.slice (some ⟨gs, off, none⟩) zs.length cap, .int .i64 i] w (Kept w) := by
  by_cases hg : Good zs
  · have hl := hg.1
    rw [hl] at hcap ⊢
    unfold maxLen at hc63
    by_cases hi : i < 0 ∨ (rd zs 14 2 : Int) ≤ i
    · exact (cell_arg i hb hg hi).mono fun _ _ => kept_nil
    · obtain ⟨k, rfl⟩ := Int.eq_ofNat_of_zero_le (show 0 ≤ i by omega)
      refine (Cell_any k hb hg hcap (by omega) (by omega)).mono ?_
      rintro e w' ⟨v, rfl, g, rfl, hc, hs, hbw⟩
      exact ⟨(some g, cellOf zs k), 0, rfl, .inr ⟨g, rfl, hc, hs, by have := cellOf_length hl (good_cell hg k (by omega)); have := good_cell hg k (by omega); show (cellOf zs k).length ≤ 512; omega⟩, hbw⟩
  · exact (Cell_bad i hb hg).mono fun _ _ => kept_nil
/-- What is told by Cells is nothing, or new memory, each cell for itself. -/
def KeptAll (w : World) (e : Ending) (w' : World) : Prop :=
  ∃ v code rs, e = .returned (.tuple #[v, .int .i64 code]) ∧ (∀ r ∈ rs, RowAt w.heap.size w' r) ∧ (rs.filterMap (·.1)).Nodup ∧ rs.length ≤ 512 ∧ Below w.heap.size w w' ∧
    ((v = .slice none 0 0 ∧ rs = []) ∨ ∃ G, v = .slice (some ⟨G, 0, none⟩) rs.length rs.length ∧ Cells w' G 24 (rs.map RV).toArray ∧ w.heap.size ≤ G)
theorem filterMap_some (xs : List (Nat × List Nat)) : (xs.map (fun x => ((some x.1, x.2) : Option Nat × List Nat))).filterMap (·.1) = xs.map (·.1) := by
  induction xs with
  | nil => rfl
  | cons x xs ih => simp [ih]
theorem kept_cells {gs off cap : Nat} {zs : List Nat} {w : World} (hb : BytesAt w (some ⟨gs, off, none⟩) zs) (hcap : zs.length ≤ cap) (hc63 : cap ≤ maxLen) :
    Calls Try.prog 11 #[.slice (some ⟨gs, off, none⟩) zs.length cap] w (KeptAll w) := by
  by_cases hg : Good zs
  · have hl := hg.1
    have h2 := hg.2.2.1
    have h3 := hg.2.2.2.1
    rw [hl] at hcap ⊢
    unfold maxLen at hc63
    refine (cells_apart hb hg hcap (by omega)).mono ?_
    rintro e w' ⟨G, xs, rfl, hp, hxl, hxs, hs, hbw, hnd⟩
    refine ⟨_, 0, xs.map (fun x => (some x.1, x.2)), rfl, ?_, by rw [filterMap_some]; exact hnd, by rw [List.length_map]; omega, hbw, .inr ⟨G, by rw [List.length_map, hxl], ?_, hs⟩⟩
    · intro r hr
      obtain ⟨x, hx, rfl⟩ := List.mem_map.1 hr
      refine .inr ⟨x.1, rfl, (hp.2 x hx).1, by have := (hp.2 x hx).2; omega, ?_⟩
      have hm : x.2 ∈ (List.range (rd zs 14 2)).map (cellOf zs) := by rw [← hxs]; exact List.mem_map.2 ⟨x, hx, rfl⟩
      exact (short_cells hb.1 hl _ _ hm).2
    · have h := hp.1
      rw [show rd zs 14 2 - xs.length = 0 from by omega, List.replicate_zero, List.append_nil] at h
      rw [show (xs.map (fun x => ((some x.1, x.2) : Option Nat × List Nat))).map RV = rowsL xs from by rw [List.map_map]; rfl]
      exact h
  · refine (Cells_bad hb hg).mono ?_
    rintro e w' ⟨rfl, hbw⟩
    exact ⟨_, 4, [], rfl, fun r hr => (by cases hr), List.nodup_nil, Nat.zero_le _, hbw, .inl ⟨rfl, rfl⟩⟩
end Go.Proofs.Ytaadeoobmclpcaa

/- The document's own cells of a page: a contract. -/
import Derived.Test.YtmojfhleelhghaaDoorPagRefGood
namespace Go.Proofs.YtmojfhleelhghaaDoor
open Go.ChangeShapes Go.WideShapes Go.ChangeAt Go.RowKit

/-- A slice of bytes that was made by append: none, or a row with spare room. -/
def RowU (w : World) (B : Nat) (v : Value) (l : List Nat) : Prop := (v = .slice none 0 0 ∧ l = []) ∨ ∃ g c, v = .slice (some ⟨g, 0, none⟩) l.length c ∧ Has w g l ∧ B ≤ g
theorem rowU_next {w w' : World} {B : Nat} {v : Value} {l : List Nat} (h : RowU w B v l) (hb : Below w.heap.size w w') : RowU w' B v l := by
  rcases h with h | ⟨g, c, h1, h2, h3⟩
  · exact .inl h
  · exact .inr ⟨g, c, h1, has_next h2 hb, h3⟩
/-- A row of such slices. -/
def RowsU (w : World) (B : Nat) (vs : List Value) (ls : List (List Nat)) : Prop := vs.length = ls.length ∧ ∀ i, (h : i < vs.length) → (h' : i < ls.length) → RowU w B vs[i] ls[i]
theorem rowsU_next {w w' : World} {B : Nat} {vs : List Value} {ls : List (List Nat)} (h : RowsU w B vs ls) (hb : Below w.heap.size w w') : RowsU w' B vs ls := ⟨h.1, fun i h1 h2 => rowU_next (h.2 i h1 h2) hb⟩
theorem rowsU_snoc {w : World} {B : Nat} {vs : List Value} {ls : List (List Nat)} {v : Value} {l : List Nat} (h : RowsU w B vs ls) (hv : RowU w B v l) : RowsU w B (vs ++ [v]) (ls ++ [l]) := by
  refine ⟨by simp [h.1], fun i h1 h2 => ?_⟩
  have he := h.1
  by_cases e : i < vs.length
  · rw [List.getElem_append_left e, List.getElem_append_left (by omega)]
    exact h.2 i e (by omega)
  · have e1 : i = vs.length := by simp at h1; omega
    subst e1
    rw [List.getElem_append_right (Nat.le_refl _), List.getElem_append_right (by omega)]
    simp
    exact hv
/-- What the document's Cells tells. -/
def CellsU (w : World) (zs : List Nat) (e : Ending) (w' : World) : Prop :=
  ∃ v vs, e = .returned v ∧ w'.ownsRow w.heap.size 22 1 v (rd zs 14 2) vs ∧ RowsU w' w.heap.size vs ((List.range (rd zs 14 2)).map (cellOf zs)) ∧ Below w.heap.size w w'
theorem info22' : (Tryd.prog.info? 22).map (fun i => (i.zero, i.size, i.bytes)) = some (some (.slice none 0 0), 1, 24) := by kernel_rfl
theorem range_snoc (zs : List Nat) (k : Nat) : (List.range (k + 1)).map (cellOf zs) = (List.range k).map (cellOf zs) ++ [cellOf zs k] := by rw [List.range_succ, List.map_append]; rfl
theorem row_form' {w : World} {base size : Nat} {v : Value} {n : Nat} {t : TypeId} {xs : List Value} (h : w.ownsRow base t size v n xs) (hn : n ≠ 0) : ∃ g cap, v = .slice (some ⟨g, 0, none⟩) n cap := by
  rcases h.2 with ⟨_, h0⟩ | ⟨g, cap, cur, rfl, hb, _⟩
  · exact absurd h0 hn
  · exact ⟨g, cap, rfl⟩
theorem row_kept' {w w' : World} {B n size : Nat} {t : TypeId} {v : Value} {xs : List Value} (h : w.ownsRow B t size v n xs) (hb : Below w.heap.size w w') : w'.ownsRow B t size v n xs :=
  h.kept (row := none) ⟨hb.os, hb.tape, hb.output, hb.size, fun k hk _ => hb.block k hk⟩ (by cases v.ownBlock <;> simp)
theorem rowU_grown {w w' : World} {B k : Nat} {v u : Value} {xs : List Value} {l : List Nat} (h : RowU w B u l) (ho : w.ownsRow B 22 1 v k xs) (hg : w.grownBy w' v.ownBlock) : RowU w' B u l := by
  rcases h with h | ⟨g, c, h1, ⟨cur, hc, hf⟩, h3⟩
  · exact .inl h
  · refine .inr ⟨g, c, h1, ⟨cur, ?_, hf⟩, h3⟩
    unfold Cells
    rw [hg.block g (Array.getElem?_eq_some_iff.1 hc).1 ?_]
    · exact hc
    · intro e
      rcases ho.2 with ⟨rfl, _⟩ | ⟨G, cap, cur', rfl, _, hG, _⟩
      · cases e
      · simp only [Value.ownBlock, Option.some.injEq] at e
        subst e
        unfold Cells at hc
        rw [hG] at hc
        simp only [Option.some.injEq, Obj.cells.injEq] at hc
        exact absurd hc.2.1 (by decide)
theorem rowsU_grown {w w' : World} {B k : Nat} {v : Value} {xs vs : List Value} {ls : List (List Nat)} (h : RowsU w B vs ls) (ho : w.ownsRow B 22 1 v k xs) (hg : w.grownBy w' v.ownBlock) : RowsU w' B vs ls :=
  ⟨h.1, fun i h1 h2 => rowU_grown (h.2 i h1 h2) ho hg⟩
set_option maxHeartbeats 2000000 in
theorem ref_cells {gs off cap : Nat} {zs : List Nat} {w : World} (hb : BytesAt w (some ⟨gs, off, none⟩) zs) (hl : zs.length = 512) (hcap : 512 ≤ cap) (hc63 : cap ≤ 9223372036854775807) (hf : Fitting zs (rd zs 14 2)) :
    Calls Tryd.prog 30 #[.slice (some ⟨gs, off, none⟩) 512 cap] w (CellsU w zs) := by
  obtain ⟨i0, hi, hz0, hz1, hz2⟩ := info_parts info5
  obtain ⟨j0, hj, hj0, hj1, hj2⟩ := info_parts info22'
  have HB0 := Lib.hid hb
  have HL := Lib.hid hl
  have HFI := Lib.hid hf
  have hf1 := hf.1
  obtain ⟨n, hn⟩ : ∃ n, n = rd zs 14 2 := ⟨_, rfl⟩
  have HN := Lib.hid hn
  rw [← hn] at hf1
  have hn5 : n ≤ 121 := by omega
  have HCT : Hid (∀ V, Below w.heap.size w V → Calls Tryd.prog 27 #[.slice (some ⟨gs, off, none⟩) 512 cap] V fun e w' => e = .returned (.int .i64 (n : Int)) ∧ V = w') := Lib.hid (fun V hV => by rw [hn]; exact ref_count (bytes_below hb hV) hl)
  obtain ⟨B, hB⟩ : ∃ B, B = w.heap.size := ⟨_, rfl⟩
  have HBe := Lib.hid hB
  clear hb hl hf hf1 hn hB
  go_enter Tryd.func30, Tryd.ntmps30
  go_wp2
  go_loopw [3, 4, 5, 6, 7] (fun v i _ _ _ wr => ∃ (k : Nat) (vs : List Value), k ≤ n ∧ i = .int .i64 k ∧ Hid (wr.ownsRow B 22 1 v k vs) ∧ Hid (RowsU wr B vs ((List.range k).map (cellOf zs))) ∧ Hid (Below w.heap.size w wr)) (fun _ i _ _ _ _ => (n - (intOf i)).toNat)
  case atStart => exact ⟨0, [], Nat.zero_le _, rfl, Lib.hid (World.ownsRow_nil _ _ _ _), Lib.hid ⟨rfl, fun i h => absurd h (Nat.not_lt_zero _)⟩, Lib.hid (Below.refl _ _)⟩
  case round =>
    obtain ⟨k, vs, hk, rfl, HO, HR, HW⟩ := hrel
    have HCT1 := Lib.hid (HCT.out wr HW.out)
    by_cases hlt : k < n
    · have HBY := Lib.hid (bytes_below HB0.out HW.out)
      have hat := HFI.out.2 k (by rw [← HN.out]; exact hlt)
      have HSL := Lib.hid (ref_slot (cap := cap) k HBY.out HL.out (by omega))
      have hcl := cellOf_length HL.out hat
      have hcb : ∀ c ∈ cellOf zs k, c < 256 := cellOf_bytes HB0.out.1 k
      have hsrc := bytes_src HBY.out (rd zs (26 + 4 * k) 2) (rd zs (28 + 4 * k) 2)
      obtain ⟨x, hx⟩ : ∃ x, x = rd zs (26 + 4 * k) 2 := ⟨_, rfl⟩
      obtain ⟨y, hy⟩ : ∃ y, y = rd zs (28 + 4 * k) 2 := ⟨_, rfl⟩
      have HCE : Hid (cellOf zs k = (zs.drop x).take y) := Lib.hid (by rw [hx, hy, cellOf])
      rw [← hx, ← hy] at HSL hat hsrc
      rw [← hy] at hcl
      rw [← HCE.out] at hsrc
      have HSRC := Lib.hid hsrc
      have HCLN := Lib.hid hcl
      have HU : Hid ((u8s (cellOf zs k)).length = y * 1) := Lib.hid (by rw [u8s, List.length_map, hcl, Nat.mul_one])
      obtain ⟨z, hz⟩ : ∃ z, z = x + y := ⟨_, rfl⟩
      have hw1 : IntKind.i64.wrap ((x : Int) + (y : Int)) = (z : Int) := (IntWalk.i64_in _ (by omega)).trans (by omega)
      have k1 : x ≤ z := by omega
      have k2 : z ≤ cap := by omega
      have k2' : (z : Int) ≤ 512 := by omega
      have k3 : z - x = y := by omega
      have HSZ := Lib.hid HW.out.size
      clear hx hy hcl hcb hsrc
      by_cases hy0 : y = 0
      · subst hy0
        obtain rfl : z = x := by omega
        have HC0 : Hid (cellOf zs k = []) := Lib.hid (List.eq_nil_of_length_eq_zero HCLN.out)
        have hw3 : IntKind.i64.wrap (z : Int) = (z : Int) := IntWalk.i64_in _ (by omega)
        have hw5 : IntKind.i64.wrap ((z : Int) + 0) = (z : Int) := (IntWalk.i64_in _ (by omega)).trans (by omega)
        clear hw1 k1 k3 hz
        by_cases k4 : cap = z
        · subst k4
          go_wp2_with (first | (at_builtin; refine wpList_append_own _ rfl (.tmp 20) (.tmp 29) 35 rfl B 22 j0 (.slice none 0 0) 1 24 Tryd.underlying35 hj hj0 hj1 hj2 rfl (by decide) _ _ _ rfl ((row_kept' HO.out HB1.out).alloc _) ⟨w1.heap.size, 0, none⟩ 1 1 [.slice none 0 0] rfl rfl (cell_one_new w1 _ _) (by intro u hu; simp at hu; subst hu; rfl) (by unfold maxLen; omega) (by omega) (by have h1 := HSZ.out; have h2 := HB1.out.size; have h3 := HBe.out; simp; omega) ?_; intro v2 w2 ho2 hg2 _; have HO2 := Lib.hid ho2; have HR2 : Hid (RowsU w2 B (vs ++ [.slice none 0 0]) ((List.range (k + 1)).map (cellOf zs))) := Lib.hid (by rw [range_snoc]; exact rowsU_grown (rowsU_next (rowsU_snoc (rowsU_next HR.out HB1.out) (.inl ⟨rfl, HC0.out⟩)) (below_alloc w1 _)) ((row_kept' HO.out HB1.out).alloc _) hg2); have HW2 : Hid (Below w.heap.size w w2) := Lib.hid (((HW.out.trans (HB1.out.mono HSZ.out)).alloc (Nat.le_trans HSZ.out HB1.out.size) _).grown hg2 (by have h1 := HSZ.out; have h2 := HB1.out.size; simp; omega) (fun q hq => by rw [← HBe.out]; exact (HO.out.lt q hq).1)); clear ho2 hg2) | (go_at_call 27; refine HCT1.out.mono ?_; rintro e w' ⟨rfl, rfl⟩) | (go_at_call 47; refine HSL.out.mono ?_; rintro e w' ⟨rfl, rfl⟩) | (at_builtin; refine wpList_append_own _ rfl (.tmp 21) (.tmp 27) 22 rfl wr.heap.size 5 i0 (.int .u8 0) 1 1 Tryd.underlying22 hi hz0 hz1 hz2 rfl (by decide) _ _ _ rfl (World.ownsRow_nil _ _ _ _) ⟨gs, off, none⟩ 0 0 [] rfl rfl (fun j u h => by simp at h) (fun u h => by simp at h) (by unfold maxLen; omega) (by omega) (Nat.le_refl _) ?_; intro v1 w1 ho1 hg1 hn1; obtain rfl := hn1.2 ⟨rfl, rfl⟩; have HB1 : Hid (Below wr.heap.size wr w1) := Lib.hid ((Below.refl wr.heap.size wr).grown hg1 (Nat.le_refl _) (fun k hk => by cases hk)); clear ho1 hg1 hn1))
          go_roundw
          case rel => exact ⟨k + 1, _, by omega, by go_num, HO2, HR2, HW2⟩
          case measure => simp [intOf]; omega
        · go_wp2_with (first | (at_builtin; refine wpList_append_own _ rfl (.tmp 20) (.tmp 29) 35 rfl B 22 j0 (.slice none 0 0) 1 24 Tryd.underlying35 hj hj0 hj1 hj2 rfl (by decide) _ _ _ rfl ((row_kept' HO.out HB1.out).alloc _) ⟨w1.heap.size, 0, none⟩ 1 1 [.slice none 0 0] rfl rfl (cell_one_new w1 _ _) (by intro u hu; simp at hu; subst hu; rfl) (by unfold maxLen; omega) (by omega) (by have h1 := HSZ.out; have h2 := HB1.out.size; have h3 := HBe.out; simp; omega) ?_; intro v2 w2 ho2 hg2 _; have HO2 := Lib.hid ho2; have HR2 : Hid (RowsU w2 B (vs ++ [.slice none 0 0]) ((List.range (k + 1)).map (cellOf zs))) := Lib.hid (by rw [range_snoc]; exact rowsU_grown (rowsU_next (rowsU_snoc (rowsU_next HR.out HB1.out) (.inl ⟨rfl, HC0.out⟩)) (below_alloc w1 _)) ((row_kept' HO.out HB1.out).alloc _) hg2); have HW2 : Hid (Below w.heap.size w w2) := Lib.hid (((HW.out.trans (HB1.out.mono HSZ.out)).alloc (Nat.le_trans HSZ.out HB1.out.size) _).grown hg2 (by have h1 := HSZ.out; have h2 := HB1.out.size; simp; omega) (fun q hq => by rw [← HBe.out]; exact (HO.out.lt q hq).1)); clear ho2 hg2) | (go_at_call 27; refine HCT1.out.mono ?_; rintro e w' ⟨rfl, rfl⟩) | (go_at_call 47; refine HSL.out.mono ?_; rintro e w' ⟨rfl, rfl⟩) | (at_builtin; refine wpList_append_own _ rfl (.tmp 21) (.tmp 27) 22 rfl wr.heap.size 5 i0 (.int .u8 0) 1 1 Tryd.underlying22 hi hz0 hz1 hz2 rfl (by decide) _ _ _ rfl (World.ownsRow_nil _ _ _ _) ⟨gs, off + z, none⟩ 0 (cap - z) [] rfl rfl (fun j u h => by simp at h) (fun u h => by simp at h) (by unfold maxLen; omega) (by omega) (Nat.le_refl _) ?_; intro v1 w1 ho1 hg1 hn1; obtain rfl := hn1.2 ⟨rfl, rfl⟩; have HB1 : Hid (Below wr.heap.size wr w1) := Lib.hid ((Below.refl wr.heap.size wr).grown hg1 (Nat.le_refl _) (fun k hk => by cases hk)); clear ho1 hg1 hn1))
          go_roundw
          case rel => exact ⟨k + 1, _, by omega, by go_num, HO2, HR2, HW2⟩
          case measure => simp [intOf]; omega
      · have k4 : ¬ cap = x := by omega
        clear hz
        go_wp2_with (first | (at_builtin; refine wpList_append_own _ rfl (.tmp 20) (.tmp 29) 35 rfl B 22 j0 (.slice none 0 0) 1 24 Tryd.underlying35 hj hj0 hj1 hj2 rfl (by decide) _ _ _ rfl ((row_kept' HO.out HB1.out).alloc _) ⟨w1.heap.size, 0, none⟩ 1 1 [.slice (some ⟨g1, 0, none⟩) y c1] rfl rfl (cell_one_new w1 _ _) (by intro u hu; simp at hu; subst hu; rfl) (by unfold maxLen; omega) (by omega) (by have h1 := HSZ.out; have h2 := HB1.out.size; have h3 := HBe.out; simp; omega) ?_; intro v2 w2 ho2 hg2 _; have HO2 := Lib.hid ho2; have HR2 : Hid (RowsU w2 B (vs ++ [.slice (some ⟨g1, 0, none⟩) y c1]) ((List.range (k + 1)).map (cellOf zs))) := Lib.hid (by rw [range_snoc]; exact rowsU_grown (rowsU_next (rowsU_snoc (rowsU_next HR.out HB1.out) (.inr ⟨g1, c1, by rw [HCLN.out], HH1.out.1, by have h1 := HH1.out.2.2.2.2; have h2 := HSZ.out; have h3 := HBe.out; omega⟩)) (below_alloc w1 _)) ((row_kept' HO.out HB1.out).alloc _) hg2); have HW2 : Hid (Below w.heap.size w w2) := Lib.hid (((HW.out.trans (HB1.out.mono HSZ.out)).alloc (Nat.le_trans HSZ.out HB1.out.size) _).grown hg2 (by have h1 := HSZ.out; have h2 := HB1.out.size; simp; omega) (fun q hq => by rw [← HBe.out]; exact (HO.out.lt q hq).1)); clear ho2 hg2) | (go_at_call 27; refine HCT1.out.mono ?_; rintro e w' ⟨rfl, rfl⟩) | (go_at_call 47; refine HSL.out.mono ?_; rintro e w' ⟨rfl, rfl⟩) | (at_builtin; refine wpList_append_own _ rfl (.tmp 21) (.tmp 27) 22 rfl wr.heap.size 5 i0 (.int .u8 0) 1 1 Tryd.underlying22 hi hz0 hz1 hz2 rfl (by decide) _ _ _ rfl (World.ownsRow_nil _ _ _ _) ⟨gs, off + x, none⟩ y (cap - x) (u8s (cellOf zs k)) rfl HU.out HSRC.out (u8s_one _) (by unfold maxLen; omega) (by omega) (Nat.le_refl _) ?_; intro v1 w1 ho1 hg1 _; simp only [Nat.zero_add, List.nil_append] at ho1; obtain ⟨g1, c1, rfl⟩ := row_form' ho1 hy0; have HH1 := Lib.hid (has_of_own ho1); have HB1 : Hid (Below wr.heap.size wr w1) := Lib.hid ((Below.refl wr.heap.size wr).grown hg1 (Nat.le_refl _) (fun k hk => by cases hk)); clear ho1 hg1))
        go_roundw
        case rel => exact ⟨k + 1, _, by omega, by go_num, HO2, HR2, HW2⟩
        case measure => simp [intOf]; omega
    · obtain rfl : k = n := by omega
      have HE : Hid (CellsU w zs (.returned u3) wr) := Lib.hid ⟨u3, vs, rfl, by rw [← HBe.out, ← HN.out]; exact HO.out, by rw [← HBe.out, ← HN.out]; exact HR.out, HW.out⟩
      go_wp2_with (go_at_call 27; refine HCT1.out.mono ?_; rintro e w' ⟨rfl, rfl⟩)
      go_ret
      exact HE.out
end Go.Proofs.YtmojfhleelhghaaDoor

/- A page whose link and extra number are set: plain functions. -/
import Derived.Test.YtaadeoobmclpcaaPagLists
namespace Go.Proofs.Ytaadeoobmclpcaa

/-- A page with that link and that extra number. -/
def linked (p : List Nat) (x y : Nat) : List Nat := lay (lay p 18 x 4) 22 y 4
theorem linked_length (p : List Nat) (x y : Nat) : (linked p x y).length = p.length := by rw [linked, lay_length, lay_length]
theorem linked_get (p : List Nat) (x y : Nat) (hl : 26 ≤ p.length) (j : Nat) : (linked p x y).getD j 0 = if 22 ≤ j ∧ j < 22 + 4 then y / 2 ^ (8 * (j - 22)) % 256 else if 18 ≤ j ∧ j < 18 + 4 then x / 2 ^ (8 * (j - 18)) % 256 else p.getD j 0 := by
  rw [linked, lay_get _ _ _ _ (by rw [lay_length]; omega), lay_get _ _ _ _ (by omega)]
theorem linked_bytes {p : List Nat} (hz : ∀ c ∈ p, c < 256) (x y : Nat) : ∀ c ∈ linked p x y, c < 256 := lay_bytes _ _ (lay_bytes _ _ hz _) _
theorem wr_linked {p : List Nat} (hz : ∀ c ∈ p, c < 256) (hl : 26 ≤ p.length) (x y : Nat) : wr p { hdOf p with link := x, extra := y } = linked p x y := by
  refine list_ext (by rw [wr_length, linked_length]) (fun j _ => ?_)
  rw [wr_get _ _ hl, linked_get _ _ _ hl]
  by_cases c1 : 22 ≤ j ∧ j < 22 + 4
  · rw [if_pos c1, if_pos c1]
  rw [if_neg c1, if_neg c1]
  by_cases c2 : 18 ≤ j ∧ j < 18 + 4
  · rw [if_pos c2, if_pos c2]
  rw [if_neg c2, if_neg c2]
  by_cases c3 : 16 ≤ j ∧ j < 16 + 2
  · rw [if_pos c3]
    show rd p 16 2 / _ % 256 = _
    rw [rd_byte hz _ _ _ (by omega), show 16 + (j - 16) = j from by omega]
  rw [if_neg c3]
  by_cases c4 : 14 ≤ j ∧ j < 14 + 2
  · rw [if_pos c4]
    show rd p 14 2 / _ % 256 = _
    rw [rd_byte hz _ _ _ (by omega), show 14 + (j - 14) = j from by omega]
  rw [if_neg c4]
  by_cases c5 : j = 13
  · rw [if_pos c5, c5]; rfl
  rw [if_neg c5]
  by_cases c6 : j = 12
  · rw [if_pos c6, c6]; rfl
  rw [if_neg c6]
  by_cases c7 : 4 ≤ j ∧ j < 4 + 8
  · rw [if_pos c7]
    show rd p 4 8 / _ % 256 = _
    rw [rd_byte hz _ _ _ (by omega), show 4 + (j - 4) = j from by omega]
  rw [if_neg c7]
  by_cases c8 : 0 ≤ j ∧ j < 0 + 4
  · rw [if_pos c8]
    show rd p 0 4 / _ % 256 = _
    rw [rd_byte hz _ _ _ (by omega), show 0 + (j - 0) = j from by omega]
  rw [if_neg c8]
theorem rd_ext {p q : List Nat} (hl : q.length = p.length) (a n : Nat) (h : ∀ i, i < n → q.getD (a + i) 0 = p.getD (a + i) 0) : rd q a n = rd p a n := by
  rw [rd, rd]
  congr 1
  refine list_ext (by simp [hl]) (fun j hj => ?_)
  have hj' : j < n := by simp at hj; omega
  have := h j hj'
  simp only [List.getD_eq_getElem?_getD] at this
  simp only [List.getD_eq_getElem?_getD, List.getElem?_take, if_pos hj', List.getElem?_drop]
  exact this
/-- Two pages that differ in what neither their cells nor their shape lies in. -/
def Alike (p q : List Nat) : Prop := q.length = p.length ∧ ∀ j, (13 ≤ j ∧ j < 18) ∨ 26 ≤ j → q.getD j 0 = p.getD j 0
theorem alike_trans {p q r : List Nat} (h : Alike p q) (k : Alike q r) : Alike p r := ⟨k.1.trans h.1, fun j hj => (k.2 j hj).trans (h.2 j hj)⟩
theorem alike_marks {p q : List Nat} (h : Alike p q) (low : Nat) : ∀ n, marks q low n = marks p low n
  | 0 => rfl
  | n + 1 => by rw [marks, marks, alike_marks h low n, rd_ext h.1 _ _ (fun i _ => h.2 _ (by omega)), rd_ext h.1 (28 + 4 * n) 2 (fun i _ => h.2 _ (by omega))]
theorem alike_count {p q : List Nat} (h : Alike p q) : rd q 14 2 = rd p 14 2 := rd_ext h.1 _ _ (fun i _ => h.2 _ (by omega))
theorem alike_low {p q : List Nat} (h : Alike p q) : rd q 16 2 = rd p 16 2 := rd_ext h.1 _ _ (fun i _ => h.2 _ (by omega))
theorem alike_good {p q : List Nat} (h : Alike p q) (hg : Good p) : Good q :=
  ⟨h.1.trans hg.1, (h.2 13 (by omega)).trans hg.2.1, by rw [alike_count h, alike_low h]; exact hg.2.2.1, by rw [alike_low h]; exact hg.2.2.2.1, by rw [alike_count h, alike_low h, alike_marks h]; exact hg.2.2.2.2⟩
theorem alike_cell {p q : List Nat} (h : Alike p q) (hg : Good p) (i : Nat) (hi : i < rd p 14 2) : cellOf q i = cellOf p i := by
  have h1 := (marks_cell hg.2.2.2.2 i hi).1
  have h2 := hg.2.2.1
  rw [cellOf, cellOf, rd_ext h.1 (26 + 4 * i) 2 (fun i _ => h.2 _ (by omega)), rd_ext h.1 (28 + 4 * i) 2 (fun i _ => h.2 _ (by omega)), drop_ext h.1 (rd p (26 + 4 * i) 2) (fun j hj => h.2 j (by omega))]
theorem alike_cells {p q : List Nat} (h : Alike p q) (hg : Good p) : (List.range (rd q 14 2)).map (cellOf q) = (List.range (rd p 14 2)).map (cellOf p) := by
  rw [alike_count h]
  exact List.map_congr_left (fun i hi => alike_cell h hg i (List.mem_range.1 hi))
theorem linked_alike (p : List Nat) (hl : 26 ≤ p.length) (x y : Nat) : Alike p (linked p x y) := ⟨linked_length _ _ _, fun j hj => by rw [linked_get _ _ _ hl, if_neg (by omega), if_neg (by omega)]⟩
theorem sealed_alike {p : List Nat} (hz : ∀ c ∈ p, c < 256) (hl : 26 ≤ p.length) (x : Nat) : Alike p (sealed p x) := by
  rw [sealed_is hz hl]
  exact ⟨stamped_length _ _ _, fun j hj => by rw [stamped_get _ _ _ hl, if_neg (by omega), if_neg (by omega)]⟩
theorem linked_link {p : List Nat} (hz : ∀ c ∈ p, c < 256) (hl : 26 ≤ p.length) (x y : Nat) (hx : x < 4294967296) : rd (linked p x y) 18 4 = x :=
  rd_is (linked_bytes hz _ _) 18 4 _ (by rw [linked_length]; omega) hx (fun i hi => by rw [linked_get _ _ _ hl, if_neg (by omega), if_pos (by omega), Nat.add_sub_cancel_left])
theorem linked_extra {p : List Nat} (hz : ∀ c ∈ p, c < 256) (hl : 26 ≤ p.length) (x y : Nat) (hy : y < 4294967296) : rd (linked p x y) 22 4 = y :=
  rd_is (linked_bytes hz _ _) 22 4 _ (by rw [linked_length]; omega) hy (fun i hi => by rw [linked_get _ _ _ hl, if_pos (by omega), Nat.add_sub_cancel_left])
theorem linked_lsn {p : List Nat} (hl : 26 ≤ p.length) (x y : Nat) : rd (linked p x y) 4 8 = rd p 4 8 := rd_ext (linked_length _ _ _) _ _ (fun i hi => by rw [linked_get _ _ _ hl, if_neg (by omega), if_neg (by omega)])
theorem linked_kind {p : List Nat} (hl : 26 ≤ p.length) (x y : Nat) : (linked p x y).getD 12 0 = p.getD 12 0 := by rw [linked_get _ _ _ hl, if_neg (by omega), if_neg (by omega)]
theorem sealed_rest {p : List Nat} (hz : ∀ c ∈ p, c < 256) (hl : 26 ≤ p.length) (x a n : Nat) (ha : 12 ≤ a) : rd (sealed p x) a n = rd p a n := by
  rw [sealed_is hz hl]
  exact rd_ext (stamped_length _ _ _) _ _ (fun i hi => by rw [stamped_get _ _ _ hl, if_neg (by omega), if_neg (by omega)])
theorem short_cells {p : List Nat} (hz : ∀ c ∈ p, c < 256) (hl : p.length = 512) (n : Nat) : Short ((List.range n).map (cellOf p)) := by
  intro l h
  obtain ⟨i, _, rfl⟩ := List.mem_map.1 h
  refine ⟨fun c hc => hz c (List.mem_of_mem_drop (List.mem_of_mem_take hc)), ?_⟩
  rw [cellOf, List.length_take, List.length_drop]
  omega
end Go.Proofs.Ytaadeoobmclpcaa

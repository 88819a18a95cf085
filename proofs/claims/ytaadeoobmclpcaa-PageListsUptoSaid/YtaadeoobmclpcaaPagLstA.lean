/- A page as a list of cells: what is done to it, in words of the list: contracts. -/
import Derived.Test.YtaadeoobmclpcaaPagListRows
namespace Go.Proofs.Ytaadeoobmclpcaa
open Go.ChangeShapes Go.WideShapes Go.ChangeAt Go.RowKit

/-- Block g holds a good page with these cells. -/
def PageOf (w : World) (g : Nat) (ls : List (List Nat)) : Prop := ∃ P, BytesAt w (some ⟨g, 0, none⟩) P ∧ Good P ∧ rd P 14 2 = ls.length ∧ (List.range ls.length).map (cellOf P) = ls
/-- The bytes of the cells, all together. -/
def tot (ls : List (List Nat)) : Nat := (ls.map List.length).sum
theorem pageOf_below {w w' : World} {g : Nat} {ls : List (List Nat)} (h : PageOf w g ls) (hb : Below w.heap.size w w') : PageOf w' g ls := by
  obtain ⟨P, h1, h2⟩ := h
  exact ⟨P, bytes_below h1 hb, h2⟩
theorem page_sizes {P : List Nat} {ls : List (List Nat)} (hg : Good P) (hc : rd P 14 2 = ls.length) (hl : (List.range ls.length).map (cellOf P) = ls) : sizes P (rd P 14 2) = tot ls := by
  rw [sizes_sum hg _ (Nat.le_refl _), hc, hl, tot]
theorem page_room {P : List Nat} (hg : Good P) : 26 + 4 * rd P 14 2 + sizes P (rd P 14 2) ≤ 512 := by
  have := (good_fitting hg).1
  omega
theorem pageOf_tot {w : World} {g : Nat} {ls : List (List Nat)} (h : PageOf w g ls) : 4 * ls.length + tot ls ≤ 486 := by
  obtain ⟨P, _, h2, h3, h4⟩ := h
  have := page_room h2
  rw [page_sizes h2 h3 h4, h3] at this
  omega
theorem pageOf_short {w : World} {g : Nat} {ls : List (List Nat)} (h : PageOf w g ls) : Short ls := by
  obtain ⟨P, h1, h2, _, h4⟩ := h
  rw [← h4]
  exact short_cells h1.1 h2.1 _
/-- An answer that is a new page with these cells. -/
def Made (V : World) (ls : List (List Nat)) (e : Ending) (w' : World) : Prop := ∃ g', e = .returned (.tuple #[.slice (some ⟨g', 0, none⟩) 512 512, .int .i64 0]) ∧ PageOf w' g' ls ∧ Below V.heap.size V w'
theorem made_page {V w' : World} {Q : List Nat} {e : Ending} {ls : List (List Nat)} {n : Nat} (hQ : Q.length = 512) (hz : ∀ c ∈ Q, c < 256) (hg : Good Q) (hn : rd Q 14 2 = n) (hc : (List.range n).map (cellOf Q) = ls) (h : PageOut V Q e w') : Made V ls e w' := by
  obtain ⟨g, rfl, hcl, _, hb⟩ := h
  have hln : ls.length = n := by rw [← hc]; simp
  exact ⟨g, rfl, ⟨Q, cells_bytes hcl hz (page_len hQ), hg, by rw [hn, hln], by rw [hln]; exact hc⟩, hb⟩
section
variable {V : World} {g : Nat} {ls : List (List Nat)} (h : PageOf V g ls)
include h
theorem compact_op : Calls Try.prog 6 #[.slice (some ⟨g, 0, none⟩) 512 512] V (Made V ls) := by
  obtain ⟨P, h1, h2, h3, h4⟩ := h
  have hR := relaid_is h1.1 h2
  have hc := relaid_count hR
  have hcl := relaid_cells h2 hR
  refine (compact_good h1 (Nat.le_refl _) (by decide) h2).mono (fun e w' ho => made_page hR.len hR.byte (relaid_good h2 hR) (hc.trans h3) ?_ ho)
  rw [hc, h3, h4] at hcl
  exact hcl
theorem insert_op {ca : Option Addr} {cs : List Nat} {ccap : Nat} (j : Nat) (hj : j ≤ ls.length) (hc : BytesAt V ca cs) (hf : 4 * ls.length + tot ls + 4 + cs.length ≤ 486) :
    Calls Try.prog 7 #[.slice (some ⟨g, 0, none⟩) 512 512, .int .i64 (j : Int), .slice ca cs.length ccap] V (Made V (ls.take j ++ cs :: ls.drop j)) := by
  obtain ⟨P, h1, h2, h3, h4⟩ := h
  have hs := page_sizes h2 h3 h4
  have hfree : 30 + 4 * rd P 14 2 + sizes P (rd P 14 2) + cs.length ≤ 512 := by omega
  have hjn : j ≤ rd P 14 2 := by omega
  obtain ⟨k1, k2, k3⟩ := insOf_holds h1.1 hc.1 h2 hjn hfree
  refine (insert_any (ccap := ccap) j h1 (Nat.le_refl _) (by decide) h2 hc hjn hfree).mono (fun e w' ho => made_page (insOf_length h2 hjn hfree) (insOf_bytes h1.1 h2 hc.1 j) k1 k2 ?_ ho)
  rw [h3, h4] at k3
  rw [h3]
  exact k3
theorem insert_no {ca : Option Addr} {m ccap : Nat} (j : Nat) (hj : j ≤ ls.length) (hm : m ≤ maxLen) (hf : 486 < 4 * ls.length + tot ls + 4 + m) :
    Calls Try.prog 7 #[.slice (some ⟨g, 0, none⟩) 512 512, .int .i64 (j : Int), .slice ca m ccap] V fun e w' => e = .returned (.tuple #[.slice none 0 0, .int .i64 7]) ∧ Below V.heap.size V w' := by
  obtain ⟨P, h1, h2, h3, h4⟩ := h
  have hs := page_sizes h2 h3 h4
  exact insert_full j h1 h2 hm (by omega) (by omega)
theorem remove_op (j : Nat) (hj : j < ls.length) : Calls Try.prog 8 #[.slice (some ⟨g, 0, none⟩) 512 512, .int .i64 (j : Int)] V (Made V (ls.take j ++ ls.drop (j + 1))) := by
  obtain ⟨P, h1, h2, h3, h4⟩ := h
  have hjn : j < rd P 14 2 := by omega
  obtain ⟨k1, k2, k3⟩ := rem_good h1.1 h2 h3.symm hj
  refine (remove_good j h1 h2 hjn).mono (fun e w' ho => made_page (removed_length h2 hjn) (removed_bytes h1.1 h2 hjn) k1 k2 ?_ ho)
  rw [h4] at k3
  exact k3
omit h in
theorem size_at {P : List Nat} (h2 : Good P) (h3 : rd P 14 2 = ls.length) (h4 : (List.range ls.length).map (cellOf P) = ls) {j : Nat} (hj : j < ls.length) : rd P (28 + 4 * j) 2 = ls[j].length := by
  have h5 : cellOf P j = ls[j] := by
    have : ((List.range ls.length).map (cellOf P))[j]? = ls[j]? := by rw [h4]
    rw [List.getElem?_map, List.getElem?_range hj, List.getElem?_eq_getElem hj] at this
    exact Option.some.inj this
  rw [← h5, cellOf_length h2.1 (good_cell h2 j (by omega))]
theorem replace_op {ca : Option Addr} {cs : List Nat} {ccap : Nat} (j : Nat) (hj : j < ls.length) (hc : BytesAt V ca cs) (hf : 4 * ls.length + tot ls + cs.length ≤ 486 + ls[j].length) :
    Calls Try.prog 9 #[.slice (some ⟨g, 0, none⟩) 512 512, .int .i64 (j : Int), .slice ca cs.length ccap] V (Made V (ls.take j ++ cs :: ls.drop (j + 1))) := by
  obtain ⟨P, h1, h2, h3, h4⟩ := h
  have hs := page_sizes h2 h3 h4
  have hz := size_at h2 h3 h4 hj
  have hjn : j < rd P 14 2 := by omega
  have hfree : cs.length ≤ rd P (28 + 4 * j) 2 ∨ 26 + 4 * rd P 14 2 + sizes P (rd P 14 2) + cs.length ≤ 512 + rd P (28 + 4 * j) 2 := .inr (by omega)
  obtain ⟨k1, k2, k3⟩ := repOf_holds h1.1 hc.1 h2 hjn hfree
  have hx : ∀ e w', PageOut V (repOf P j cs) e w' → Made V (ls.take j ++ cs :: ls.drop (j + 1)) e w' := fun e w' ho => made_page (repOf_length h1.1 h2 hjn hfree) (repOf_bytes h1.1 h2 hc.1 hjn) k1 (k2.trans h3) (by
    rw [h3, h4] at k3
    exact k3) ho
  by_cases hle : cs.length ≤ rd P (28 + 4 * j) 2
  · exact (replace_in (cap := 512) (ccap := ccap) j h1 h2 hc hjn hle).mono hx
  · exact (replace_grow (cap := 512) (ccap := ccap) j h1 h2 hc hjn (by omega) (by omega)).mono hx
theorem replace_no {ca : Option Addr} {cs : List Nat} {ccap : Nat} (j : Nat) (hj : j < ls.length) (hc : BytesAt V ca cs) (hf : 486 + ls[j].length < 4 * ls.length + tot ls + cs.length) :
    Calls Try.prog 9 #[.slice (some ⟨g, 0, none⟩) 512 512, .int .i64 (j : Int), .slice ca cs.length ccap] V fun e w' => e = .returned (.tuple #[.slice none 0 0, .int .i64 7]) ∧ Below V.heap.size V w' := by
  have ht := pageOf_tot h
  obtain ⟨P, h1, h2, h3, h4⟩ := h
  have hs := page_sizes h2 h3 h4
  have hz := size_at h2 h3 h4 hj
  exact replace_full j h1 h2 hc (by omega) (by omega) (by omega)
theorem cells_op : Calls Try.prog 11 #[.slice (some ⟨g, 0, none⟩) 512 512] V (CellsOut V ls.length ls) := by
  obtain ⟨P, h1, h2, h3, h4⟩ := h
  have := cells_good h1 h2 (Nat.le_refl _) (by decide)
  rw [h3, h4] at this
  exact this
theorem free_op : Calls Try.prog 12 #[.slice (some ⟨g, 0, none⟩) 512 512] V fun e w' => e = .returned (.tuple #[.int .i64 (486 - 4 * (ls.length : Int) - (tot ls : Int)), .int .i64 0]) ∧ Below V.heap.size V w' := by
  obtain ⟨P, h1, h2, h3, h4⟩ := h
  have := Free_good (cap := 512) h1 h2
  rw [page_sizes h2 h3 h4, h3] at this
  exact this
theorem good_op : Calls Try.prog 10 #[.slice (some ⟨g, 0, none⟩) 512 512] V fun e w' => e = .returned (.bool true) ∧ Below V.heap.size V w' := by
  obtain ⟨P, h1, h2, _, _⟩ := h
  have := good_yes (cap := 512) h1 h2
  rw [h2.1] at this
  exact this
end
def page3 : List Nat := wr noughts (newHd 3)
theorem page3_eq : wr noughts (newHd 3) = page3 := rfl
theorem page3_good : Good page3 := by unfold Good; decide +kernel
theorem page3_count : rd page3 14 2 = 0 := by decide +kernel
theorem page3_bytes : ∀ c ∈ page3, c < 256 := by decide +kernel
theorem new_op (w : World) : Calls Try.prog 5 #[.int .i64 3] w (Made w []) := by
  refine (new_any 3 (by decide) w).mono (fun e w' ho => ?_)
  rw [page3_eq] at ho
  exact made_page page3_good.1 page3_bytes page3_good page3_count rfl ho
end Go.Proofs.Ytaadeoobmclpcaa

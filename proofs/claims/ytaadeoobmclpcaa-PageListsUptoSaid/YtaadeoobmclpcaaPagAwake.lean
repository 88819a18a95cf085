/- A page with a cell: a contract. -/
import Derived.Test.YtaadeoobmclpcaaPagCell
import Derived.Lib.SlBytesConst
namespace Go.Proofs.Ytaadeoobmclpcaa
open Go.ChangeShapes Go.WideShapes Go.ChangeAt Go.RowKit

def page1 : List Nat := wr noughts (newHd 1)
def page2 : List Nat := inserted page1 0 [97, 98]
theorem page1_eq : wr noughts (newHd 1) = page1 := rfl
theorem page2_eq : inserted page1 0 [97, 98] = page2 := rfl
theorem page1_good : Good page1 := by unfold Good; decide +kernel
theorem page1_count : rd page1 14 2 = 0 := by decide +kernel
theorem page1_low : rd page1 16 2 = 512 := by decide +kernel
theorem page1_bytes : ∀ c ∈ page1, c < 256 := by decide +kernel
theorem page2_good : Good page2 := by unfold Good; decide +kernel
theorem page2_count : rd page2 14 2 = 1 := by decide +kernel
theorem page2_size : rd page2 28 2 = 2 := by decide +kernel
theorem page2_cell : cellOf page2 0 = [97, 98] := by decide +kernel
theorem page2_bytes : ∀ c ∈ page2, c < 256 := by decide +kernel
attribute [local irreducible] page1 page2 inserted
theorem bytes_alloc (w : World) (l : List Nat) (hz : ∀ c ∈ l, c < 256) (hm : l.length ≤ maxLen) (fr : Nat × Nat) : BytesAt (w.alloc (.cells (u8c l) 5 fr)) (some ⟨w.heap.size, 0, none⟩) l :=
  ⟨hz, hm, fun j hj => ⟨w.heap.size, 0, rfl, by rw [Nat.zero_add, World.cell?_alloc_mark, u8c_get l j hj]⟩⟩
theorem kcab (w : World) : (convert 24 24 (.slice (some ⟨w.heap.size, 0, none⟩) 2 2)).run Try.prog (w.alloc (.cells #[.int .u8 97, .int .u8 98] 5)) = .ok (.slice (some ⟨w.heap.size, 0, none⟩) 2 2) (w.alloc (.cells #[.int .u8 97, .int .u8 98] 5 (2, 3))) :=
  Lib.run_convert_bytes_const (P := Try.prog) w 24 5 #[.int .u8 97, .int .u8 98] 2 2 Try.underlying24 Try.underlying5
theorem back_ab {w : World} {g : Nat} (h : Cells w g 5 (u8c [97, 98])) : (convert 24 9 (.slice (some ⟨g, 0, none⟩) 2 2)).run Try.prog w = .ok (.string ⟨#[97, 98]⟩) w :=
  run_convert_bytes_back (P := Try.prog) w 24 9 5 ⟨g, 0, none⟩ 2 [97, 98] Try.underlying24 Try.underlying5 Try.underlying9 (fun j hj => by
    have hadd : (⟨g, 0, none⟩ : Addr).add j = ⟨g, j, none⟩ := by unfold Addr.add; split <;> simp_all
    rw [hadd, cell_of_row w g j _ _ _ h]
    match j, hj with
    | 0, _ => rfl
    | 1, _ => rfl)

set_option maxHeartbeats 1000000 in
theorem awake_any (w : World) : Calls Try.prog 4 #[] w fun e w' => e = .returned (.bool true) ∧ Below w.heap.size w w' := by
  have HN : Hid (Calls Try.prog 5 #[.int .i64 1] w (PageOut w page1)) := Lib.hid (by rw [← page1_eq]; exact new_any 1 (by decide) w)
  go_enter Try.func4, Try.ntmps4
  go_wp2_with (go_at_call 5; refine HN.out.mono ?_; rintro e w1 ⟨g, rfl, hc1, hs1, hb1⟩; have HC1 := Lib.hid hc1; have HS1 := Lib.hid hs1; have HB1 := Lib.hid hb1; clear hc1 hs1 hb1; have kc := kcab w1)
  have HVb : Hid (Below w.heap.size w (w1.alloc (.cells #[.int .u8 97, .int .u8 98] 5 (2, 3)))) := Lib.hid (HB1.out.alloc HB1.out.size _)
  have HI : Hid (Calls Try.prog 7 #[.slice (some ⟨g, 0, none⟩) 512 512, .int .i64 0, .slice (some ⟨w1.heap.size, 0, none⟩) 2 2] (w1.alloc (.cells #[.int .u8 97, .int .u8 98] 5 (2, 3))) (PageOut (w1.alloc (.cells #[.int .u8 97, .int .u8 98] 5 (2, 3))) page2)) := by
    refine Lib.hid ?_
    have hp : BytesAt (w1.alloc (.cells #[.int .u8 97, .int .u8 98] 5 (2, 3))) (some ⟨g, 0, none⟩) page1 := cells_bytes (cells_alloc HC1.out _) page1_bytes (by rw [page1_good.1]; unfold maxLen; decide)
    have hq : BytesAt (w1.alloc (.cells #[.int .u8 97, .int .u8 98] 5 (2, 3))) (some ⟨w1.heap.size, 0, none⟩) [97, 98] := bytes_alloc w1 [97, 98] (by decide) (by unfold maxLen; decide) (2, 3)
    have := insert_room (cap := 512) (ccap := 2) 0 hp page1_good hq (by decide) (Nat.zero_le _) (by rw [page1_count]; decide) (by rw [page1_count, page1_low]; decide)
    rw [page2_eq] at this
    exact this
  clear kc
  generalize w1.alloc (.cells #[.int .u8 97, .int .u8 98] 5 (2, 3)) = V at HVb HI ⊢
  refine HI.out.mono ?_
  rintro e w2 ⟨g2, rfl, hc2, hs2, hb2⟩
  have HC2 := Lib.hid hc2
  have HB2 : Hid (Below w.heap.size w w2) := Lib.hid (HVb.out.trans (hb2.mono HVb.out.size))
  clear hc2 hs2 hb2
  have HL : Hid (Calls Try.prog 14 #[.slice (some ⟨g2, 0, none⟩) 512 512, .int .i64 0] w2 fun e w' => ∃ v, e = .returned (.tuple #[v, .int .i64 0]) ∧ BytesOut w2 [97, 98] v w') := by
    refine Lib.hid ?_
    have hp : BytesAt w2 (some ⟨g2, 0, none⟩) page2 := cells_bytes HC2.out page2_bytes (by rw [page2_good.1]; unfold maxLen; decide)
    have := Cell_pos (cap := 512) 0 hp page2_good (Nat.le_refl _) (by decide) (by rw [page2_count]; decide) (by rw [page2_size]; decide)
    rw [page2_cell] at this
    exact this
  go_wp2_with (go_at_call 14; refine HL.out.mono ?_; rintro e w3 ⟨v, rfl, g3, rfl, hc3, hs3, hb3⟩; have kb := back_ab hc3; have HB3 : Hid (Below w.heap.size w w3) := Lib.hid (HB2.out.trans (hb3.mono HB2.out.size)); clear hc3 hs3 hb3)
  go_ret
  exact ⟨rfl, HB3.out⟩
end Go.Proofs.Ytaadeoobmclpcaa

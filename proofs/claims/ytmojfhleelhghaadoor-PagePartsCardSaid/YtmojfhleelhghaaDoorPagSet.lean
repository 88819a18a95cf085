/- A page's link and extra number are set: contracts. -/
import Derived.Test.YtmojfhleelhghaaDoorPagSeals
namespace Go.Proofs.YtmojfhleelhghaaDoor
open Go.ChangeShapes Go.WideShapes Go.ChangeAt Go.RowKit

set_option maxHeartbeats 2000000 in
theorem set_good {ad : Addr} {cap : Nat} {zs : List Nat} (x y : Nat) (hx : x < 4294967296) (hy : y < 4294967296) {w : World} (hb : BytesAt w (some ad) zs) (hg : Good zs) :
    Calls Tryd.prog 25 #[.slice (some ad) 512 cap, .int .i64 (x : Int), .int .i64 (y : Int)] w (PageOut w (wr zs { hdOf zs with link := x, extra := y })) := by
  obtain ⟨i0, hi, hz0, hz1, hz2⟩ := info_parts info5
  have hl : zs.length = 512 := hg.1
  have HO : Hid (Calls Tryd.prog 37 #[.slice (some ad) 512 cap] w (OpenedGood w zs)) := by
    have := open_good (cap := cap) hb hg
    rw [hl] at this
    exact Lib.hid this
  have HONE := Lib.hid (hd_one (hdOf zs))
  have HL := Lib.hid hl; clear hl
  have HF := Lib.hid (hdOf_fits hb.1 (by have := HL.out; omega))
  have HU : Hid ((u8s zs).length = 512 * 1) := Lib.hid (by simp [u8s]; exact HL.out)
  have HBY := Lib.hid hb
  have hbt : i0.bytes * 512 ≤ 281474976710656 := by rw [hz2]; decide
  have HBT := Lib.hid hbt
  have hx1 : IntKind.u32.wrap (x : Int) = (x : Int) := by rw [IntKind.wrap_u32]; omega
  have hy1 : IntKind.u32.wrap (y : Int) = (y : Int) := by rw [IntKind.wrap_u32]; omega
  obtain ⟨R, hR⟩ : ∃ R, R = wr zs { hdOf zs with link := x, extra := y } := ⟨_, rfl⟩
  rw [← hR]
  have HR := Lib.hid hR
  clear hb hg hbt hR
  go_enter Tryd.func25, Tryd.ntmps25
  go_wp2_with (first | (go_at_call 37; refine HO.out.mono ?_; rintro e w' ⟨rfl, hbel⟩; have HB := Lib.hid hbel; clear hbel) | (refine wpList_store_row rfl 58 (.tmp 8) _ rfl w'.heap.size (hdOf zs).cells rfl rfl 58 _ (cells_new w' 58 head0) (size58 _ rfl) rfl HONE.out ?_; have HH1 := Lib.hid (show Cells _ _ _ _ from setRow_heap _ _ _ (hdOf zs).cells _ _ (cells_new w' 58 head0)); have HB1 := Lib.hid (below_head HB.out HB.out.size (hdOf zs).cells)) | (at_make; refine wpList_make_own _ rfl _ _ 22 rfl _ 5 i0 (.int .u8 0) 1 Tryd.underlying22 hi hz0 hz1 .i64 .i64 512 512 rfl rfl rfl HBT.out (by unfold maxLen; decide) (Nat.le_refl _) ?_; intro w2 ho2 hg2; simp only [size_setRow, World.size_alloc] at ho2; have HO2 := Lib.hid ho2; have HH2 := Lib.hid (cells_grown HH1.out hg2 (by simp)); have HB2 := Lib.hid (HB1.out.grown hg2 HB1.out.size (fun k hk => by cases hk)); clear ho2 hg2) | (at_builtin; refine wpList_append_fits _ rfl (.tmp 34) (.tmp 35) 22 rfl _ 5 i0 1 Tryd.underlying22 hi hz1 _ 0 512 [] rfl HO2.out ad 512 cap (u8s zs) rfl HU.out (bytes_cells (bytes_below HBY.out HB2.out)) (u8s_one _) (by decide) ?_; intro w3 ho3 hg3; simp only [Nat.zero_add, List.nil_append] at ho3; have HC3 := Lib.hid (own_cells ho3); have HH3 := Lib.hid (cells_grown HH2.out hg3 (by simp)); have HB3 := Lib.hid (HB2.out.grown hg3 HB2.out.size (fun k hk => by cases hk; exact Nat.le_succ_of_le HB.out.size)); have hold1 : w3.cell? ⟨w'.heap.size, 1, none⟩ = some (.int .u32 ((hdOf zs).link : Int)) := (cell_of_row w3 w'.heap.size 1 _ _ _ HH3.out).trans rfl; have hfz1 := frozen_of_row w3 w'.heap.size 1 _ _ HH3.out; have hold2 : w3.cell? ⟨w'.heap.size, 2, none⟩ = some (.int .u32 ((hdOf zs).extra : Int)) := (cell_of_row w3 w'.heap.size 2 _ _ _ HH3.out).trans rfl; have hfz2 := frozen_of_row w3 w'.heap.size 2 _ _ HH3.out; clear ho3 hg3))
  have HC4 : Hid (Cells ((w3.setCell ⟨w'.heap.size, 1, none⟩ (.int .u32 (x : Int))).setCell ⟨w'.heap.size, 2, none⟩ (.int .u32 (y : Int))) (w'.heap.size + 1) 5 (u8c zs)) := Lib.hid (cells_setOther (cells_setOther HC3.out (by omega)) (by omega))
  have HH4 : Hid (Cells ((w3.setCell ⟨w'.heap.size, 1, none⟩ (.int .u32 (x : Int))).setCell ⟨w'.heap.size, 2, none⟩ (.int .u32 (y : Int))) w'.heap.size 58 ({ hdOf zs with link := x, extra := y } : Hd).cells) := Lib.hid (cells_setCell (cells_setCell HH3.out))
  have HB4 : Hid (Below w.heap.size w ((w3.setCell ⟨w'.heap.size, 1, none⟩ (.int .u32 (x : Int))).setCell ⟨w'.heap.size, 2, none⟩ (.int .u32 (y : Int)))) := Lib.hid ((HB3.out.setCell HB.out.size _).setCell HB.out.size _)
  have hF4 : ({ hdOf zs with link := x, extra := y } : Hd).Fits := ⟨HF.out.1, hx, hy, HF.out.2.2.2⟩
  refine (write_any w'.heap.size (w'.heap.size + 1) 512 512 { hdOf zs with link := x, extra := y } zs _ hF4 (by omega) HL.out (by omega) HH4.out HC4.out).mono ?_
  rintro e w5 ⟨rfl, hc5, hw5⟩
  have HE : Hid (PageOut w R (.returned (.tuple #[.slice (some ⟨w'.heap.size + 1, 0, none⟩) 512 512, .int .i64 0])) w5) := by
    refine Lib.hid ⟨w'.heap.size + 1, rfl, ?_, Nat.le_succ_of_le HB.out.size, below_wrote HB4.out hw5 (Nat.le_succ_of_le HB.out.size) HB4.out.size⟩
    rw [HR.out]
    exact hc5
  clear hc5 hw5
  go_wp2
  go_ret2
  exact HE.out
theorem set_bad {a : Option Addr} {cap : Nat} {zs : List Nat} (x y : Int) {w : World} (hb : BytesAt w a zs) (hg : ¬ Good zs) : Calls Tryd.prog 25 #[.slice a zs.length cap, .int .i64 x, .int .i64 y] w fun e w' => e = .returned (.tuple #[.slice none 0 0, .int .i64 4]) ∧ Below w.heap.size w w' := by
  have HO := Lib.hid (open_bad (cap := cap) hb hg)
  clear hb hg
  go_enter Tryd.func25, Tryd.ntmps25
  go_wp2_with (first | (go_at_call 37; refine HO.out.mono ?_; rintro e w' ⟨cs, rfl, hbel, h8, h1⟩; have HB := Lib.hid hbel; have HS := Lib.hid (size58 cs h8); have HS0 : Hid (head0.size = cs.size) := Lib.hid h8.symm; have H1 := Lib.hid h1; clear hbel h8 h1) | (refine wpList_store_row rfl 58 (.tmp 8) _ rfl w'.heap.size cs rfl rfl 58 _ (cells_new w' 58 head0) HS.out HS0.out H1.out ?_))
  go_ret2
  exact ⟨rfl, below_head HB.out HB.out.size _⟩
set_option maxHeartbeats 1000000 in
theorem set_arg {a : Option Addr} {cap : Nat} {zs : List Nat} (x y : Int) (hxy : x < 0 ∨ 4294967295 < x ∨ y < 0 ∨ 4294967295 < y) {w : World} (hb : BytesAt w a zs) (hg : Good zs) : Calls Tryd.prog 25 #[.slice a zs.length cap, .int .i64 x, .int .i64 y] w fun e w' => e = .returned (.tuple #[.slice none 0 0, .int .i64 1]) ∧ Below w.heap.size w w' := by
  have HO := Lib.hid (open_good (cap := cap) hb hg)
  have HONE := Lib.hid (hd_one (hdOf zs))
  clear hb hg
  have hd : (decide (x < 0), decide (4294967295 < x), decide (y < 0), decide (4294967295 < y)) = (decide (x < 0), decide (4294967295 < x), decide (y < 0), decide (4294967295 < y)) := rfl
  clear hd
  by_cases h1 : x < 0
  all_goals by_cases h2 : 4294967295 < x
  all_goals by_cases h3 : y < 0
  all_goals by_cases h4 : 4294967295 < y
  all_goals first | omega | skip
  all_goals
    clear hxy
    go_enter Tryd.func25, Tryd.ntmps25
    go_wp2_with (first | (go_at_call 37; refine HO.out.mono ?_; rintro e w' ⟨rfl, hbel⟩; have HB := Lib.hid hbel; clear hbel) | (refine wpList_store_row rfl 58 (.tmp 8) _ rfl w'.heap.size (hdOf zs).cells rfl rfl 58 _ (cells_new w' 58 head0) (size58 _ rfl) rfl HONE.out ?_))
    go_ret2
    exact ⟨rfl, below_head HB.out HB.out.size _⟩
end Go.Proofs.YtmojfhleelhghaaDoor

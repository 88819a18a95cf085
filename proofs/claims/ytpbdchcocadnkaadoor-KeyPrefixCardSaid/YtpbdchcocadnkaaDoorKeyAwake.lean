/- Layer 4 is awake: the walk. -/
import Derived.Test.YtpbdchcocadnkaaDoorKeyIs
namespace Go.Proofs.YtpbdchcocadnkaaDoor
open Go.ChangeShapes Go.WideShapes Go.ChangeAt Go.RowKit

theorem const_key (w : World) : BytesAt (w.alloc (.cells #[.int .u8 64, .int .u8 97, .int .u8 0, .int .u8 0] 5)) (some ⟨w.heap.size, 0, none⟩) key97 := bytes_alloc w key97 (by decide) (by show 4 ≤ maxLen; unfold maxLen; decide) (0, 0)
theorem below_step {a V b : World} (h : Below a.heap.size a V) (k : Below V.heap.size V b) : Below a.heap.size a b := h.trans (k.mono h.size)
set_option maxHeartbeats 2000000 in
set_option maxRecDepth 20000 in
theorem awake_any (w : World) : Calls Tryd.prog 8 #[] w fun e w' => e = .returned (.bool true) ∧ Below w.heap.size w w' := by
  have HBK := Lib.hid (back_a (cap := 4) (const_key w))
  have HB0 : Hid (Below w.heap.size w (w.alloc (.cells #[.int .u8 64, .int .u8 97, .int .u8 0, .int .u8 0] 5))) := Lib.hid (below_alloc _ _)
  generalize hQ : (fun (e : Ending) (w' : World) => e = .returned (.bool true) ∧ Below w.heap.size w w') = Q
  have HQ := Lib.hid hQ
  clear hQ
  go_enter Tryd.func8, Tryd.ntmps8
  go_wp2_with fail
  refine HBK.out.mono ?_
  rintro e w1 ⟨ab, ao, ac, rfl, hx1, h1, hb1⟩
  have HX1 := Lib.hid hx1
  have HB1 := Lib.hid (HB0.out.trans (hb1.mono HB0.out.size))
  clear hx1 hb1
  go_wp2_with fail
  have HB2 : Hid (Below w.heap.size w (w1.alloc (.cells #[.int .i64 5, .int .u64 0, .slice (some ⟨ab, ao, none⟩) 1 ac, .slice none 0 0, .slice none 0 0] 35))) := Lib.hid (below_alloc' HB1.out _)
  have HX2 : Hid ((w1.alloc (.cells #[.int .i64 5, .int .u64 0, .slice (some ⟨ab, ao, none⟩) 1 ac, .slice none 0 0, .slice none 0 0] 35)).cell? ⟨ab, ao, none⟩ = some (.int .u8 97)) := Lib.hid (((below_alloc w1 _).cell (World.block_lt_of_cell? w1 _ HX1.out)).trans HX1.out)
  have HC2 : Hid (Cells (w1.alloc (.cells #[.int .i64 5, .int .u64 0, .slice (some ⟨ab, ao, none⟩) 1 ac, .slice none 0 0, .slice none 0 0] 35)) w1.heap.size 35 #[.int .i64 5, .int .u64 0, .slice (some ⟨ab, ao, none⟩) 1 ac, .slice none 0 0, .slice none 0 0]) := Lib.hid (cells_new _ _ _)
  generalize w1.alloc (.cells #[.int .i64 5, .int .u64 0, .slice (some ⟨ab, ao, none⟩) 1 ac, .slice none 0 0, .slice none 0 0] 35) = w2 at HB2 HX2 HC2 ⊢
  have HS : Hid (∀ V, Below w2.heap.size w2 V → V.cell? ⟨w1.heap.size, 0, none⟩ = some (.int .i64 5) ∧ V.cell? ⟨w1.heap.size, 1, none⟩ = some (.int .u64 0) ∧ V.cell? ⟨w1.heap.size, 2, none⟩ = some (.slice (some ⟨ab, ao, none⟩) 1 ac) ∧ V.cell? ⟨w1.heap.size, 3, none⟩ = some (.slice none 0 0) ∧ V.cell? ⟨w1.heap.size, 4, none⟩ = some (.slice none 0 0)) := Lib.hid (fun V hV => by
    obtain ⟨a0, a1, a2, a3, a4, -, -, -, -, -⟩ := five_of (cells_below HC2.out hV)
    exact ⟨a0, a1, a2, a3, a4⟩)
  have HT : Hid (∀ V, Calls Tryd.prog 15 #[.string ⟨#[97]⟩] V (TextOut V V)) := Lib.hid t_a
  have HIS : Hid (∀ V g o c y, V.cell? ⟨g, o, none⟩ = some (.int .u8 97) → 1 ≤ c → BytesAt V y key97 → Calls Tryd.prog 14 #[.agg #[.int .i64 5, .int .u64 0, .slice (some ⟨g, o, none⟩) 1 c, .slice none 0 0, .slice none 0 0], .slice y 4 4] V fun e w' => e = .returned (.bool true) ∧ Below V.heap.size V w') := Lib.hid (fun V g o c y hc h1 hy => is_a hc h1 hy)
  have HSM : Hid (∀ V g o c, Below w2.heap.size w2 V → V.cell? ⟨g, o, none⟩ = some (.int .u8 97) → Calls Tryd.prog 16 #[.agg #[.int .i64 5, .int .u64 0, .slice (some ⟨ab, ao, none⟩) 1 ac, .slice none 0 0, .slice none 0 0], .agg #[.int .i64 5, .int .u64 0, .slice (some ⟨g, o, none⟩) 1 c, .slice none 0 0, .slice none 0 0]] V fun e w' => e = .returned (.bool true) ∧ Below V.heap.size V w') := Lib.hid (fun V g o c hV hc => same_a ((hV.cell (World.block_lt_of_cell? w2 _ HX2.out)).trans HX2.out) hc)
  obtain ⟨q0, q1, q2, q3, q4⟩ := HS.out w2 (Below.refl _ _)
  go_region_held (fun V => V.cell? ⟨w1.heap.size, 0, none⟩ = some (.int .i64 5) ∧ V.cell? ⟨w1.heap.size, 1, none⟩ = some (.int .u64 0) ∧ V.cell? ⟨w1.heap.size, 2, none⟩ = some (.slice (some ⟨ab, ao, none⟩) 1 ac) ∧ V.cell? ⟨w1.heap.size, 3, none⟩ = some (.slice none 0 0) ∧ V.cell? ⟨w1.heap.size, 4, none⟩ = some (.slice none 0 0)) (exact HS.out _ (by repeat (first | exact HB9.out | exact HB7.out | exact HB6.out | exact HB5.out | exact Below.refl _ _ | refine Below.drew ?_ | refine below_alloc' ?_ _)))
    (first
      | ((go_at_call 16; (refine (HSM.out _ _ _ _ (by repeat (first | exact HB9.out | exact HB7.out | exact HB6.out | exact HB5.out | exact Below.refl _ _ | refine Below.drew ?_ | refine below_alloc' ?_ _)) (by first | exact HX7.out | exact HX7d.out)).mono ?_); rintro e w9 ⟨rfl, hb9⟩; have HB9 : Hid (Below w2.heap.size w2 w9) := Lib.hid (below_step (by repeat (first | exact HB9.out | exact HB7.out | exact HB6.out | exact HB5.out | exact Below.refl _ _ | refine Below.drew ?_ | refine below_alloc' ?_ _)) hb9); clear hb9))
      | ((go_at_call 15; have hmark := HB6.out; clear hmark; (refine (HT.out _).mono ?_); rintro e w7 ⟨g7, o7, c7, rfl, hx7, h7, hg7, hb7⟩; have HX7 := Lib.hid hx7; have HB7 : Hid (Below w2.heap.size w2 w7) := Lib.hid (below_step (by repeat (first | exact HB9.out | exact HB7.out | exact HB6.out | exact HB5.out | exact Below.refl _ _ | refine Below.drew ?_ | refine below_alloc' ?_ _)) hb7); clear hx7 h7 hg7 hb7))
      | ((go_at_call 14; (refine (HIS.out _ _ _ _ _ (by first | exact HX5.out | exact ((below_alloc w5 _).cell (World.block_lt_of_cell? w5 _ HX5.out)).trans HX5.out) H5.out (by first | exact const_key w5 | exact bytes_below (const_key w2) HBV.out | exact bytes_below (bytes_drew (const_key w2)) HBV.out)).mono ?_); rintro e w6 ⟨rfl, hb6⟩; have HB6 : Hid (Below w2.heap.size w2 w6) := Lib.hid (below_step (by repeat (first | exact HB9.out | exact HB7.out | exact HB6.out | exact HB5.out | exact Below.refl _ _ | refine Below.drew ?_ | refine below_alloc' ?_ _)) hb6); clear hb6))
      | ((go_at_call 15; (refine (HT.out _).mono ?_); rintro e w5 ⟨g5, o5, c5, rfl, hx5, h5, hg5, hb5⟩; have HX5 := Lib.hid hx5; have H5 := Lib.hid h5; have HBV := Lib.hid hb5; have HB5 : Hid (Below w2.heap.size w2 w5) := Lib.hid (below_step (by repeat (first | exact HB9.out | exact HB7.out | exact HB6.out | exact HB5.out | exact Below.refl _ _ | refine Below.drew ?_ | refine below_alloc' ?_ _)) hb5); clear hx5 h5 hg5 hb5)))
  all_goals
    go_wp2
    rw [← HQ.out]
    exact ⟨rfl, HB2.out.trans (HB9.out.mono HB2.out.size)⟩
end Go.Proofs.YtpbdchcocadnkaaDoor

/- The laws' own words on values: contracts of T, is, Same. -/
import Derived.Test.YtpbdchcocadnkaaDoorKeyBack
import Derived.Deep.RegionHeldLaw
namespace Go.Proofs.YtpbdchcocadnkaaDoor
open Go.ChangeShapes Go.WideShapes Go.ChangeAt Go.RowKit

theorem conv_a (V : World) : ∃ c V', (convert 9 22 (.string ⟨#[97]⟩)).run Tryd.prog V = .ok (.slice (some ⟨V.heap.size, 0, none⟩) 1 c) V' ∧ 1 ≤ c ∧ V'.cell? ⟨V.heap.size, 0, none⟩ = some (.int .u8 97) ∧ Below V.heap.size V V' := by
  have h := run_bytes_of_string (P := Tryd.prog) V 9 22 5 ⟨#[97]⟩ Tryd.underlying9 Tryd.underlying22 Tryd.underlying5
  refine ⟨_, _, h, grownCap_ge V 1 0 5, ?_, (Below.drew (Below.refl _ _)).alloc (Nat.le_refl _) _⟩
  rw [show (⟨V.heap.size, 0, none⟩ : Addr) = ⟨V.drew.heap.size, 0, none⟩ from rfl, World.cell?_alloc_mark, bytesRow, Array.getElem?_append_left (by simp)]
  simp
/-- What T tells. -/
def TextOut (W w : World) (e : Ending) (w' : World) : Prop := ∃ g o c, e = .returned (.agg #[.int .i64 5, .int .u64 0, .slice (some ⟨g, o, none⟩) 1 c, .slice none 0 0, .slice none 0 0]) ∧ w'.cell? ⟨g, o, none⟩ = some (.int .u8 97) ∧ 1 ≤ c ∧ W.heap.size ≤ g ∧ Below w.heap.size w w'
set_option maxHeartbeats 1000000 in
set_option maxRecDepth 20000 in
theorem t_a (w : World) : Calls Tryd.prog 15 #[.string ⟨#[97]⟩] w (TextOut w w) := by
  obtain ⟨c, V', hcv, h1, hx, hb⟩ := conv_a (w.alloc (.cells #[.int .i64 0, .int .u64 0, .slice none 0 0, .slice none 0 0, .slice none 0 0] 35))
  rw [size_alloc] at hcv hx
  have HG : Hid (Cells V' w.heap.size 35 #[.int .i64 0, .int .u64 0, .slice none 0 0, .slice none 0 0, .slice none 0 0]) := Lib.hid (cells_below (cells_new _ _ _) hb)
  have HB : Hid (Below w.heap.size w V') := Lib.hid ((below_alloc _ _).trans (hb.mono (below_alloc _ _).size))
  have HX := Lib.hid hx
  have H1 := Lib.hid h1
  obtain ⟨a0, a1, a2, a3, a4, z0, z1, z2, z3, z4⟩ := five_of HG.out
  generalize hQ : TextOut w w = Q
  have HQ := Lib.hid hQ
  clear hQ hb hx h1
  go_enter Tryd.func15, Tryd.ntmps15
  go_wp2
  have hAs := set5_cells (v := .slice (some ⟨w.heap.size + 1, 0, none⟩) 1 c) HG.out
  have hTs := set5_turned V' w.heap.size (.slice (some ⟨w.heap.size + 1, 0, none⟩) 1 c)
  rw [set5_is]
  (try simp only [Exit.inBlock, Exit.then])
  refine bodyPost_ret (results_cell_row rfl _ _ w.heap.size 35 _ (0, 0) _ rfl hAs Tryd.underlying35 rfl (by kernel_rfl)) rfl ?_
  rw [← HQ.out]
  refine ⟨w.heap.size + 1, 0, c, rfl, ?_, H1.out, Nat.le_succ _, Turned.to_below HB.out hTs (fun k e => by omega) HB.out.size⟩
  rw [World.cell?_of_block (a := ⟨w.heap.size + 1, 0, none⟩) (hTs.block (w.heap.size + 1) (World.block_lt_of_cell? V' _ HX.out) (by omega))]
  exact HX.out
set_option maxHeartbeats 1000000 in
set_option maxRecDepth 20000 in
theorem is_a {w : World} {b off xc : Nat} {y : Option Addr} {yc : Nat} (hc : w.cell? ⟨b, off, none⟩ = some (.int .u8 97)) (h1 : 1 ≤ xc) (hy : BytesAt w y key97) :
    Calls Tryd.prog 14 #[.agg #[.int .i64 5, .int .u64 0, .slice (some ⟨b, off, none⟩) 1 xc, .slice none 0 0, .slice none 0 0], .slice y 4 yc] w fun e w' => e = .returned (.bool true) ∧ Below w.heap.size w w' := by
  have HOF : Hid (∀ V, Below w.heap.size w V → Calls Tryd.prog 12 #[.agg #[.int .i64 5, .int .u64 0, .slice (some ⟨b, off, none⟩) 1 xc, .slice none 0 0, .slice none 0 0]] V fun e w' => ∃ a c, e = .returned (.tuple #[.slice a 4 c, .int .i64 0]) ∧ Own V w' a 4 c key97 ∧ Below V.heap.size V w') := Lib.hid (fun V hV => of_a ((hV.cell (World.block_lt_of_cell? w _ hc)).trans hc) h1)
  have HY : Hid (∀ V, Below w.heap.size w V → BytesAt V y key97) := Lib.hid (fun V hV => bytes_below hy hV)
  have HB1 : Hid (∀ o : Obj, Below w.heap.size w (w.alloc o)) := Lib.hid (fun o => below_alloc _ _)
  generalize hQ : (fun (e : Ending) (w' : World) => e = .returned (.bool true) ∧ Below w.heap.size w w') = Q
  have HQ := Lib.hid hQ
  clear hQ hc hy
  go_enter Tryd.func14, Tryd.ntmps14
  go_wp2_with fail
  refine (HOF.out _ (HB1.out _)).mono ?_
  rintro e w2 ⟨a2, c2, rfl, ho2, hb2⟩
  have HB2 := Lib.hid ((HB1.out _).trans (hb2.mono (HB1.out _).size))
  have k1 := conv_any (own_bytes ho2) (k := 4) rfl c2
  have k2 := conv_any (HY.out _ HB2.out) (k := 4) rfl yc
  obtain ⟨s, hs⟩ : ∃ s, s = str key97 := ⟨_, rfl⟩
  rw [← hs] at k1 k2
  clear hs ho2 hb2
  go_wp2
  rw [← HQ.out]
  exact ⟨by simp, HB2.out⟩
set_option maxHeartbeats 1000000 in
set_option maxRecDepth 20000 in
theorem same_a {w : World} {b off xc b' off' xc' : Nat} (hc : w.cell? ⟨b, off, none⟩ = some (.int .u8 97)) (hc' : w.cell? ⟨b', off', none⟩ = some (.int .u8 97)) :
    Calls Tryd.prog 16 #[.agg #[.int .i64 5, .int .u64 0, .slice (some ⟨b, off, none⟩) 1 xc, .slice none 0 0, .slice none 0 0], .agg #[.int .i64 5, .int .u64 0, .slice (some ⟨b', off', none⟩) 1 xc', .slice none 0 0, .slice none 0 0]] w fun e w' => e = .returned (.bool true) ∧ Below w.heap.size w w' := by
  have HX : Hid (∀ V b off, Below w.heap.size w V → w.cell? ⟨b, off, none⟩ = some (.int .u8 97) → BytesAt V (some ⟨b, off, none⟩) [97]) := Lib.hid (fun V b off hV hc => ⟨by decide, by show 1 ≤ maxLen; unfold maxLen; decide, fun j hj => ⟨b, off, rfl, by
    have hj0 : j = 0 := by simpa using hj
    subst hj0
    exact (hV.cell (World.block_lt_of_cell? w _ hc)).trans hc⟩⟩)
  have HB2 : Hid (∀ o o' : Obj, Below w.heap.size w ((w.alloc o).alloc o')) := Lib.hid (fun o o' => below_alloc' (below_alloc _ _) _)
  obtain ⟨s, hs⟩ : ∃ s, s = str [97] := ⟨_, rfl⟩
  have KK : Hid (∀ V b off c, Below w.heap.size w V → w.cell? ⟨b, off, none⟩ = some (.int .u8 97) → (convert 22 9 (.slice (some ⟨b, off, none⟩) 1 c)).run Tryd.prog V = .ok (.string s) V) := Lib.hid (fun V b off c hV hc => by rw [hs]; exact conv_any (HX.out V b off hV hc) rfl c)
  have k1 := KK.out ((w.alloc (.cells #[.int .i64 5, .int .u64 0, .slice (some ⟨b, off, none⟩) 1 xc, .slice none 0 0, .slice none 0 0] 35)).alloc (.cells #[.int .i64 5, .int .u64 0, .slice (some ⟨b', off', none⟩) 1 xc', .slice none 0 0, .slice none 0 0] 35)) b off xc (HB2.out _ _) hc
  have k2 := KK.out ((w.alloc (.cells #[.int .i64 5, .int .u64 0, .slice (some ⟨b, off, none⟩) 1 xc, .slice none 0 0, .slice none 0 0] 35)).alloc (.cells #[.int .i64 5, .int .u64 0, .slice (some ⟨b', off', none⟩) 1 xc', .slice none 0 0, .slice none 0 0] 35)) b' off' xc' (HB2.out _ _) hc'
  clear hs hc hc'
  go_enter Tryd.func16, Tryd.ntmps16
  go_wp2
  refine wp_loop_rounds 1 ?_
  rw [rounds_succ]
  go_wp2
  refine wp_loop_rounds 1 ?_
  rw [rounds_succ]
  go_wp2
  go_ret
  exact ⟨rfl, HB2.out _ _⟩
end Go.Proofs.YtpbdchcocadnkaaDoor

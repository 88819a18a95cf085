/- A text's key read back by Back: a contract. -/
import Derived.Test.YtpbdchcocadnkaaDoorKeyParts
namespace Go.Proofs.YtpbdchcocadnkaaDoor
open Go.ChangeShapes Go.WideShapes Go.ChangeAt Go.RowKit

theorem make_bool (V : World) : (Instr.makeSlice 50 (.int .i64 1) (.int .i64 1)).run Tryd.prog V = .ok (.slice (some ⟨V.heap.size, 0, none⟩) 1 1) (V.alloc (.cells #[.bool false] 4)) := by
  kernel_rfl
theorem results_back {fn : Func} {p u : Tmp} (h : fn.results = #[.cell p 35, .tmp u]) {tmps : Array Value} {w : World} {g : Nat} {cs : Array Value} {x : Value} (hs : cs.size = 5) (hp : tmps.getD p undef = .pointer (some ⟨g, 0, none⟩)) (hu : tmps.getD u undef = x)
    (hA : Cells w g 35 cs) : (results fn tmps).run Tryd.prog w = .ok (.tuple #[.agg cs, x]) w := by
  rw [results_cell_tmp h]
  have hl : (loadVar 35 ⟨g, 0, none⟩).run Tryd.prog w = .ok (.agg cs) w := run_loadVar_row w g 35 35 _ (0, 0) _ hA Tryd.underlying35 rfl (by rw [hs]; kernel_rfl)
  simp only [hp, hu, asAddr, Sem.run_pure, Result.andThen_ok, hl]
set_option maxHeartbeats 1000000 in
set_option maxRecDepth 20000 in
theorem back_a {w : World} {b off cap : Nat} (hb : BytesAt w (some ⟨b, off, none⟩) key97) :
    Calls Tryd.prog 13 #[.slice (some ⟨b, off, none⟩) 4 cap] w fun e w' => ∃ ab ao ac, e = .returned (.tuple #[.agg #[.int .i64 5, .int .u64 0, .slice (some ⟨ab, ao, none⟩) 1 ac, .slice none 0 0, .slice none 0 0], .int .i64 0]) ∧ w'.cell? ⟨ab, ao, none⟩ = some (.int .u8 97) ∧ 1 ≤ ac ∧ Below w.heap.size w w' := by
  have HMK := Lib.hid make_bool
  have HY : Hid (∀ V, Below w.heap.size w V → BytesAt V (some ⟨b, off, none⟩) key97) := Lib.hid (fun V hV => bytes_below hb hV)
  generalize hQ : (fun (e : Ending) (w' : World) => ∃ ab ao ac, e = .returned (.tuple #[.agg #[.int .i64 5, .int .u64 0, .slice (some ⟨ab, ao, none⟩) 1 ac, .slice none 0 0, .slice none 0 0], .int .i64 0]) ∧ w'.cell? ⟨ab, ao, none⟩ = some (.int .u8 97) ∧ 1 ≤ ac ∧ Below w.heap.size w w') = Q
  have HQ := Lib.hid hQ
  clear hQ hb
  have hmk := HMK.out
  go_enter Tryd.func13, Tryd.ntmps13
  go_wp2_with fail
  have HB2 : Hid (Below w.heap.size w ((w.alloc (.cells #[.int .i64 0, .int .u64 0, .slice none 0 0, .slice none 0 0, .slice none 0 0] 35)).alloc (.cells #[.bool false] 4))) := Lib.hid (below_alloc' (below_alloc _ _) _)
  have HG2 : Hid (Cells ((w.alloc (.cells #[.int .i64 0, .int .u64 0, .slice none 0 0, .slice none 0 0, .slice none 0 0] 35)).alloc (.cells #[.bool false] 4)) w.heap.size 35 #[.int .i64 0, .int .u64 0, .slice none 0 0, .slice none 0 0, .slice none 0 0]) := Lib.hid (cells_alloc (cells_new _ _ _) _)
  have hf2 : ((w.alloc (.cells #[.int .i64 0, .int .u64 0, .slice none 0 0, .slice none 0 0, .slice none 0 0] 35)).alloc (.cells #[.bool false] 4)).cell? ⟨w.heap.size + 1, 0, none⟩ = some (.bool false) := by
    have h := cells_new (w.alloc (.cells #[.int .i64 0, .int .u64 0, .slice none 0 0, .slice none 0 0, .slice none 0 0] 35)) 4 #[.bool false]
    rw [size_alloc] at h
    rw [cell_of_row _ (w.heap.size + 1) 0 _ _ _ h]
    rfl
  generalize (w.alloc (.cells #[.int .i64 0, .int .u64 0, .slice none 0 0, .slice none 0 0, .slice none 0 0] 35)).alloc (.cells #[.bool false] 4) = w2 at HB2 HG2 hf2 ⊢
  refine (parts_a (HY.out _ HB2.out) hf2).mono ?_
  rintro e w3 ⟨lb, lo, lc, ab, ao, ac, rfl, hone, hb3⟩
  have HG3 := Lib.hid (cells_below HG2.out hb3)
  have HB3 := Lib.hid (HB2.out.trans (hb3.mono HB2.out.size))
  obtain ⟨l0, l1, l2, l3, l4, lx, la⟩ := hone
  have HLX := Lib.hid lx
  have HLA := Lib.hid la
  obtain ⟨a0, a1, a2, a3', a4, z0, z1, z2, z3, z4⟩ := five_of HG3.out
  have HAB : Hid (ab ≠ w.heap.size) := Lib.hid (fun e => by
    subst e
    have := cell_of_row w3 w.heap.size ao _ _ _ HG3.out
    rw [lx] at this
    match ao, this with
    | 0, h => cases h
    | 1, h => cases h
    | 2, h => cases h
    | 3, h => cases h
    | 4, h => cases h
    | n + 5, h => simp at h)
  clear hb3 hf2 lx la hmk
  go_wp2
  have hAs := set5_cells (v := .slice (some ⟨ab, ao, none⟩) 1 ac) HG3.out
  have hTs := set5_turned w3 w.heap.size (.slice (some ⟨ab, ao, none⟩) 1 ac)
  rw [set5_is]
  (try simp only [Exit.inBlock, Exit.then])
  refine bodyPost_ret (results_back rfl rfl rfl rfl hAs) rfl ?_
  rw [← HQ.out]
  refine ⟨ab, ao, ac, rfl, ?_, HLA.out, Turned.to_below HB3.out hTs (fun k e => by omega) HB3.out.size⟩
  rw [World.cell?_of_block (a := ⟨ab, ao, none⟩) (hTs.block ab (World.block_lt_of_cell? w3 _ HLX.out) HAB.out)]
  exact HLX.out
end Go.Proofs.YtpbdchcocadnkaaDoor

/- The key of one text, by All: a contract. -/
import Derived.Test.YtpbdchcocadnkaaDoorKeyRd
namespace Go.Proofs.YtpbdchcocadnkaaDoor
open Go.ChangeShapes Go.WideShapes Go.ChangeAt Go.RowKit

/-- A row of one text, "a". -/
structure OneText (w : World) (lb lo ab ao ac : Nat) : Prop where
  l0 : w.cell? ⟨lb, lo, none⟩ = some (.int .i64 5)
  l1 : w.cell? ⟨lb, lo + 1, none⟩ = some (.int .u64 0)
  l2 : w.cell? ⟨lb, lo + 2, none⟩ = some (.slice (some ⟨ab, ao, none⟩) 1 ac)
  l3 : w.cell? ⟨lb, lo + 3, none⟩ = some (.slice none 0 0)
  l4 : w.cell? ⟨lb, lo + 4, none⟩ = some (.slice none 0 0)
  lx : w.cell? ⟨ab, ao, none⟩ = some (.int .u8 97)
  la : 1 ≤ ac
theorem one_below {w w' : World} {lb lo ab ao ac : Nat} (h : OneText w lb lo ab ao ac) (hb : Below w.heap.size w w') : OneText w' lb lo ab ao ac := by
  have one : ∀ ad v, w.cell? ad = some v → w'.cell? ad = some v := fun ad v hc => (hb.cell (World.block_lt_of_cell? w _ hc)).trans hc
  exact ⟨one _ _ h.l0, one _ _ h.l1, one _ _ h.l2, one _ _ h.l3, one _ _ h.l4, one _ _ h.lx, h.la⟩
set_option maxHeartbeats 1000000 in
set_option maxRecDepth 20000 in
theorem all_a {w : World} {lb lo ab ao ac lc fb fo fc : Nat} (h : OneText w lb lo ab ao ac) (hf : w.cell? ⟨fb, fo, none⟩ = some (.bool false)) :
    Calls Tryd.prog 32 #[.slice (some ⟨lb, lo, none⟩) 1 lc, .slice (some ⟨fb, fo, none⟩) 1 fc] w fun e w' => ∃ a c, e = .returned (.tuple #[.slice a 4 c, .int .i64 0]) ∧ Own w w' a 4 c key97 ∧ Below w.heap.size w w' := by
  have HR := Lib.hid rowyU
  have h' := h
  obtain ⟨l0, l1, l2, l3, l4, -, -⟩ := h'
  have HF : Hid (∀ V, Below w.heap.size w V → V.cell? ⟨fb, fo, none⟩ = some (.bool false)) := Lib.hid (fun V hV => (hV.cell (World.block_lt_of_cell? w _ hf)).trans hf)
  have HOF : Hid (∀ V, Below w.heap.size w V → Calls Tryd.prog 12 #[.agg #[.int .i64 5, .int .u64 0, .slice (some ⟨ab, ao, none⟩) 1 ac, .slice none 0 0, .slice none 0 0]] V fun e w' => ∃ a c, e = .returned (.tuple #[.slice a 4 c, .int .i64 0]) ∧ Own V w' a 4 c key97 ∧ Below V.heap.size V w') := Lib.hid (fun V hV => of_a (one_below h hV).lx h.la)
  have HB1 : Hid (∀ o : Obj, Below w.heap.size w (w.alloc o)) := Lib.hid (fun o => below_alloc _ _)
  generalize hQ : (fun (e : Ending) (w' : World) => ∃ a c, e = .returned (.tuple #[.slice a 4 c, .int .i64 0]) ∧ Own w w' a 4 c key97 ∧ Below w.heap.size w w') = Q
  have HQ := Lib.hid hQ
  clear hQ hf h
  go_enter Tryd.func32, Tryd.ntmps32
  go_wp2
  refine wp_loop_rounds 2 ?_
  rw [rounds_succ]
  go_wp2_with fail
  refine (HOF.out _ (HB1.out _)).mono ?_
  rintro e w2 ⟨a2, c2, rfl, ho2, hb2⟩
  have HB2 := Lib.hid ((HB1.out _).trans (hb2.mono (HB1.out _).size))
  have HO2 : Hid (Own w w2 a2 4 c2 key97) := Lib.hid (own_mono ho2 (HB1.out _).size)
  have hfl := HF.out w2 HB2.out
  clear ho2 hb2
  go_wp2_with (at_builtin; refine wpList_slc HR.out rfl (.tmp 40) (.tmp 41) 22 rfl rfl rfl (slc_nil _ 1) (bytes_src Tryd.underlying22 (own_bytes HO2.out) HO2.out.1) (rfl : 0 + 4 = 4) (by unfold maxLen; decide) (by decide) ?_; intro a3 c3 b3 w3 h1 h2 h3; obtain ⟨ho3, hb3⟩ := own_more (n := 0) (n' := 4) (l := []) (m := key97) rfl rfl (fun x hx => by cases hx) HO2.out.2.1 HB2.out (fun b e => by cases e) h1 h2 h3; have HO3 : Hid (Own w w3 a3 4 c3 key97) := Lib.hid ho3; have HB3 := Lib.hid hb3; clear h1 h2 h3 ho3 hb3)
  rw [rounds_succ]
  go_wp2
  rw [← HQ.out]
  exact ⟨a3, c3, rfl, HO3.out, HB3.out⟩
end Go.Proofs.YtpbdchcocadnkaaDoor

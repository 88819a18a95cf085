/- What the rows of this seat give their walks: the table's cells; a slice of bytes that came in; a world for the witness. -/
import Derived.Test.YteplapigkofgaaaDoorCards
import Derived.Test.YteplapigkofgaaaDoorTie
import Derived.Test.YteplapigkofgaaaDoorWirAwake
namespace Go.Proofs.YteplapigkofgaaaDoor
open Go.ChangeShapes Go.WideShapes Go.ChangeAt Go.RowKit

theorem gTab : Tryd.prog.globalNamed "muniment/sum.steps" = some 0 := by kernel_rfl
theorem gTabType : (Tryd.prog.globals[0]?).map (·.type) = some 88 := by kernel_rfl
theorem cellsTab : Tryd.prog.cellsOf 88 = 16 := by kernel_rfl
theorem cellsU32 : Tryd.prog.cellsOf 56 = 1 := by kernel_rfl
/-- The table's numbers. -/
def tabI : List Int := [0, 498536548, 997073096, 651767980, 1994146192, 1802195444, 1303535960, 1342533948, 3988292384, 4027552580, 3604390888, 3412177804, 2607071920, 2262029012, 2685067896, 3183342108]
theorem tabI_get : ∀ j : Fin 16, tabI.getD j.val 0 = ((tab.getD j.val 0 : Nat) : Int) := by decide
theorem tab_second {x : String × DataW Unit} {r : List (String × DataW Unit)} {W : World} (h : laidMet Tryd.prog (x :: ("muniment/sum.steps", Lib.tabData .u32 tabI) :: r) W) : Lib.TabIs Tryd.prog W "muniment/sum.steps" .u32 tabI := by
  obtain ⟨ps, ⟨_, _, _, _, _, _, _, _, _, _, ⟨g', t', cs, fuel, p, q, hg', ht', hvar, hd, _, _⟩, _⟩, _⟩ := h
  obtain rfl := Option.some.inj (gTab.symm.trans hg')
  obtain rfl := Option.some.inj (gTabType.symm.trans ht')
  unfold Lib.TabIs
  rw [hvar, ← Lib.cells_of_tab Tryd.underlying88 Tryd.underlying56 cellsU32 cellsTab hd]
theorem table {W : World} (h : laidMetH Tryd.prog [("unicode/utf8.acceptRanges", Rows.laid_unicode_utf8_acceptRanges), ("muniment/sum.steps", Rows.laid_muniment_sum_steps), ("unicode/utf8.first", Rows.laid_unicode_utf8_first)] W) : TabAt W := by
  have ht : Lib.TabIs Tryd.prog W "muniment/sum.steps" .u32 tabI := tab_second h
  intro j hj
  have := ht.cell gTab j (by simpa [tabI] using hj)
  rw [this]
  have h2 := tabI_get ⟨j, hj⟩
  simp only at h2
  rw [h2]
theorem reach_at {len cap : Nat} {H : Type} {ds : List (DataW H)} {ts : List TypeId} {zs : List Int} (i : Nat) (hsz : (DataW.weightsEach Tryd.prog ts ds).all (· ≤ reachBytes) = true) (ht : ts[i]? = some 22)
    (hd : ds[i]? = some (.slice (lits .u8 (zs.take len)) (lits .u8 (zs.drop len)))) (hz : zs.length = cap) : cap ≤ 140737488351232 := by
  have := sized_slice hsz ht hd Tryd.underlying22
  rw [bytes5] at this
  simp only [lits, List.length_map, List.length_take, List.length_drop, reachBytes] at this
  omega
def acceptI : List Int := [128, 191, 160, 191, 128, 159, 144, 191, 128, 143, 0, 0, 0, 0, 0, 0, 0, 0, 0, 0, 0, 0, 0, 0, 0, 0, 0, 0, 0, 0, 0, 0]
/-- A variable's cells written anew. -/
def relaid (h : Array Obj) (g : Nat) (vs : List Value) : Array Obj := h.modify g fun
  | .cells _ t frozen => .cells vs.toArray t frozen
  | o => o
/-- A world for the witness: the settled one, the tables holding what their initialisers lay. -/
noncomputable def laidWorld (os : Os) : World :=
  { World.holding Tryd.prog os ⟨#[], #[], []⟩ with heap := relaid (relaid (relaid (World.holding Tryd.prog os ⟨#[], #[], []⟩).heap 0 (tabI.map (Value.int .u32))) 1 (Go.Pinned.utf8FirstZ.map fun n : Nat => Value.int .u8 (n : Int))) 2 (acceptI.map (Value.int .u8)) }
set_option maxRecDepth 100000 in
theorem laid_any (os : Os) (args : Array Value) : laidMet Tryd.prog Rows.wireSplitsRow.laid ((laidWorld os).forCall (fun _ _ => 0) ⟨#[], args, []⟩).memory :=
  laidMet_of_run' 8 (by kernel_rfl) (by kernel_rfl)
theorem splits_in {W : World} {a : Option Addr} {len cap : Nat} {l : List Nat} (h : InAt W a len cap l) (hT : TabAt W) : Calls Tryd.prog 4 #[.slice a len cap] W fun e w' => e = .returned (.bool true) ∧ Below W.heap.size W w' :=
  splits_law h.2.2.2.2 h.1 h.2.1 hT
end Go.Proofs.YteplapigkofgaaaDoor

/- What the rows of this seat give their walks: the table's cells; a slice of bytes that came in. -/
import Derived.Test.YtmojfhleelhghaaDoorCards
import Derived.Test.YtmojfhleelhghaaDoorTie
import Derived.Test.YtmojfhleelhghaaDoorPagSeals
import Derived.ShutString
import Derived.ChangeOld
import Derived.Below
import Derived.SizedLaws
import Derived.Deep.DeepHandedRow
import Derived.Lib.LaidTab
namespace Go.Proofs.YtmojfhleelhghaaDoor
open Go.ChangeShapes Go.WideShapes Go.ChangeAt Go.RowKit

theorem own : ownKnob Tryd.prog.godebug = none := by kernel_rfl
theorem laidOut : laidOutB Tryd.prog = true := by kernel_rfl
theorem gTab : Tryd.prog.globalNamed "muniment/sum.steps" = some 0 := by kernel_rfl
theorem gTabType : (Tryd.prog.globals[0]?).map (·.type) = some 77 := by kernel_rfl
theorem cellsTab : Tryd.prog.cellsOf 77 = 16 := by kernel_rfl
theorem cellsU32 : Tryd.prog.cellsOf 56 = 1 := by kernel_rfl
theorem bytes5 : Tryd.prog.bytesOf 5 = 1 := by kernel_rfl

/-- The table's numbers. -/
def tabI : List Int := [0, 498536548, 997073096, 651767980, 1994146192, 1802195444, 1303535960, 1342533948, 3988292384, 4027552580, 3604390888, 3412177804, 2607071920, 2262029012, 2685067896, 3183342108]
theorem tabI_get : ∀ j : Fin 16, tabI.getD j.val 0 = ((tab.getD j.val 0 : Nat) : Int) := by decide
theorem table {W : World} (h : laidMetH Tryd.prog [("muniment/sum.steps", Rows.laid_muniment_sum_steps)] W) : TabAt W := by
  have ht : Lib.TabIs Tryd.prog W "muniment/sum.steps" .u32 tabI :=
    Lib.tabIs_of_head (rest := []) gTab gTabType Tryd.underlying77 Tryd.underlying56 cellsU32 cellsTab h
  intro j hj
  have := ht.cell gTab j (by simpa [tabI] using hj)
  rw [this]
  have h2 := tabI_get ⟨j, hj⟩
  simp only at h2
  rw [h2]

/-- A slice of bytes that came in. -/
def InAt (w : World) (a : Option Addr) (len cap : Nat) (l : List Nat) : Prop := l.length = len ∧ len ≤ cap ∧ cap ≤ maxLen ∧ (a = none → l = [] ∧ cap = 0) ∧ BytesAt w a l
theorem in_of_row {w : World} {x : Addr} {len cap : Nat} {zs : List Int} (hl : len ≤ cap) (hm : cap ≤ maxLen) (hz : zs.length = cap)
    (hcell : ∀ i, i < zs.length → w.cell? (x.add i) = some (.int .u8 (zs.getD i 0))) (hwz : ∀ n ∈ zs, (Lit.int .u8 n).wf = true) : InAt w (some x) len cap ((zs.take len).map Int.toNat) := by
  have hb : ∀ n ∈ zs, 0 ≤ n ∧ n < 256 := fun n hn => by
    have := bounds_u8 (hwz n hn)
    omega
  refine ⟨by simp; omega, hl, hm, (fun h => by cases h), ?_, ?_, ?_⟩
  · intro c hc
    simp only [List.mem_map] at hc
    obtain ⟨n, hn, rfl⟩ := hc
    have := hb n (List.mem_of_mem_take hn)
    omega
  · simp; omega
  · intro j hj
    have hj' : j < len := by simp at hj; omega
    have h1 := hcell j (by omega)
    have hsp : x.spot = none := by
      have := hcell 0 (by omega)
      simpa [Addr.add] using World.cell?_spot this
    obtain ⟨b, off, spot⟩ := x
    simp only at hsp
    subst hsp
    refine ⟨b, off, rfl, ?_⟩
    have e : (⟨b, off, none⟩ : Addr).add j = ⟨b, off + j, none⟩ := by unfold Addr.add; split <;> simp_all
    rw [e] at h1
    rw [h1]
    have hjz : j < zs.length := by omega
    have h3 := hb _ (List.getElem_mem hjz)
    simp [hjz]
    omega
theorem reach_of {len cap : Nat} {H : Type} {ds : List (DataW H)} {ts : List TypeId} {zs : List Int} (hsz : (DataW.weightsEach Tryd.prog ts ds).all (· ≤ reachBytes) = true) (ht : ts[0]? = some 22)
    (hd : ds[0]? = some (.slice (lits .u8 (zs.take len)) (lits .u8 (zs.drop len)))) (hz : zs.length = cap) : cap ≤ 140737488351232 := by
  have := sized_slice hsz ht hd Tryd.underlying22
  rw [bytes5] at this
  simp only [lits, List.length_map, List.length_take, List.length_drop, reachBytes] at this
  omega
theorem reach_nil {len cap : Nat} (h : cap = 0) (hl : len ≤ cap) : len ≤ 140737488351232 := by omega

/-- A world for the witness: the settled one, the table holding what its initialiser lays. -/
noncomputable def laidWorld (os : Os) : World :=
  { World.holding Tryd.prog os ⟨#[], #[], []⟩ with heap := (World.holding Tryd.prog os ⟨#[], #[], []⟩).heap.modify 0 fun
      | .cells _ t frozen => .cells (tabI.map (Value.int .u32)).toArray t frozen
      | o => o }
end Go.Proofs.YtmojfhleelhghaaDoor

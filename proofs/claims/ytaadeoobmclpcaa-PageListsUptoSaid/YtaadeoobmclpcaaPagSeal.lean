/- A page is sealed; its head; whether it is good: contracts. -/
import Derived.Test.YtaadeoobmclpcaaPagWrite
namespace Go.Proofs.Ytaadeoobmclpcaa
open Go.ChangeShapes Go.WideShapes Go.ChangeAt Go.RowKit

theorem open_any (a : Option Addr) (cap : Nat) (zs : List Nat) (w : World) (hb : BytesAt w a zs) : Calls Try.prog 16 #[.slice a zs.length cap] w (Opened w zs) := by
  by_cases hl : zs.length = 512
  · obtain ⟨b, off, rfl, _⟩ := hb.2.2 0 (by omega)
    exact open_full _ cap zs w hb hl
  · exact open_short a cap zs w hl
/-- What opening a good page tells. -/
def OpenedGood (w : World) (zs : List Nat) (e : Ending) (w' : World) : Prop := e = .returned (.tuple #[.agg (hdOf zs).cells, .bool true]) ∧ Below w.heap.size w w'
/-- What opening another one tells. -/
def OpenedBad (w : World) (e : Ending) (w' : World) : Prop := ∃ cs, e = .returned (.tuple #[.agg cs, .bool false]) ∧ Below w.heap.size w w' ∧ cs.size = 8 ∧ cs.all (·.oneCell') = true
theorem open_good {a : Option Addr} {cap : Nat} {zs : List Nat} {w : World} (hb : BytesAt w a zs) (hg : Good zs) : Calls Try.prog 16 #[.slice a zs.length cap] w (OpenedGood w zs) := by
  refine (open_any a cap zs w hb).mono ?_
  rintro e w' ⟨cs, b, rfl, hbel, h1, h2, h3⟩
  cases b with
  | true => obtain ⟨_, rfl⟩ := h1 rfl
            exact ⟨rfl, hbel⟩
  | false => exact absurd hg (h2 rfl)
theorem open_bad {a : Option Addr} {cap : Nat} {zs : List Nat} {w : World} (hb : BytesAt w a zs) (hg : ¬ Good zs) : Calls Try.prog 16 #[.slice a zs.length cap] w (OpenedBad w) := by
  refine (open_any a cap zs w hb).mono ?_
  rintro e w' ⟨cs, b, rfl, hbel, h1, h2, h3⟩
  cases b with
  | true => exact absurd (h1 rfl).1 hg
  | false => rcases h3 with rfl | rfl
             · exact ⟨_, rfl, hbel, rfl, by simp [head0, Value.oneCell']⟩
             · exact ⟨_, rfl, hbel, rfl, by simp [hdCells, Value.oneCell']⟩

theorem hd_one (h : Hd) : h.cells.all (·.oneCell') = true := by simp [Hd.cells, Value.oneCell']
/-- What was done behind opening: a new row, and one that was there laid over it. -/
theorem below_head {B : Nat} {w w' : World} (h : Below B w w') (hB : B ≤ w'.heap.size) (cs : Array Value) : Below B w ((w'.alloc (.cells head0 44)).setRow w'.heap.size cs) := below_setRow (h.alloc hB _) hB _
theorem good_yes {a : Option Addr} {cap : Nat} {zs : List Nat} {w : World} (hb : BytesAt w a zs) (hg : Good zs) : Calls Try.prog 10 #[.slice a zs.length cap] w fun e w' => e = .returned (.bool true) ∧ Below w.heap.size w w' := by
  have HO := Lib.hid (open_good (cap := cap) hb hg)
  have HONE := Lib.hid (hd_one (hdOf zs))
  clear hb hg
  go_enter Try.func10, Try.ntmps10
  go_wp2_with (first | (go_at_call 16; refine HO.out.mono ?_; rintro e w' ⟨rfl, hbel⟩; have HB := Lib.hid hbel; clear hbel) | (refine wpList_store_row rfl 44 (.tmp 3) _ rfl w'.heap.size (hdOf zs).cells rfl rfl 44 _ (cells_new w' 44 head0) (size58 _ rfl) rfl HONE.out ?_))
  go_ret
  exact ⟨rfl, below_head HB.out HB.out.size _⟩
theorem good_no {a : Option Addr} {cap : Nat} {zs : List Nat} {w : World} (hb : BytesAt w a zs) (hg : ¬ Good zs) : Calls Try.prog 10 #[.slice a zs.length cap] w fun e w' => e = .returned (.bool false) ∧ Below w.heap.size w w' := by
  have HO := Lib.hid (open_bad (cap := cap) hb hg)
  clear hb hg
  go_enter Try.func10, Try.ntmps10
  go_wp2_with (first | (go_at_call 16; refine HO.out.mono ?_; rintro e w' ⟨cs, rfl, hbel, h8, h1⟩; have HB := Lib.hid hbel; have HS := Lib.hid (size58 cs h8); have HS0 : Hid (head0.size = cs.size) := Lib.hid h8.symm; have H1 := Lib.hid h1; clear hbel h8 h1) | (refine wpList_store_row rfl 44 (.tmp 3) _ rfl w'.heap.size cs rfl rfl 44 _ (cells_new w' 44 head0) HS.out HS0.out H1.out ?_))
  go_ret
  exact ⟨rfl, below_head HB.out HB.out.size _⟩
end Go.Proofs.Ytaadeoobmclpcaa

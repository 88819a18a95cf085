/- A page's head is read: a contract. -/
import Derived.Test.YtaadeoobmclpcaaPagNum
import Derived.Deep.QuietTactic
import Derived.BigQuiet
import Derived.RegionTactic
import Derived.ChangeAlike
namespace Go.Proofs.Ytaadeoobmclpcaa
open Go.ChangeShapes Go.WideShapes Go.ChangeAt Go.RowKit

/-- What stands in another block than g. -/
def Apart (a : Option Addr) (g : Nat) : Prop := ∀ ad, a = some ad → ad.block ≠ g
theorem bytes_setCell {w : World} {a : Option Addr} {zs : List Nat} {g o : Nat} {v : Value} (h : BytesAt w a zs) (hne : Apart a g) : BytesAt (w.setCell ⟨g, o, none⟩ v) a zs :=
  ⟨h.1, h.2.1, fun j hj => by
    obtain ⟨b, off, e, hc⟩ := h.2.2 j hj
    refine ⟨b, off, e, ?_⟩
    have hb : b ≠ g := hne _ e
    rw [World.cell?_of_block (heap_setCell_other w ⟨g, o, none⟩ b v hb)]
    exact hc⟩
theorem bytes_drew {w : World} {a : Option Addr} {zs : List Nat} (h : BytesAt w a zs) : BytesAt w.drew a zs := h
/-- The cells of a page's head. -/
def hdCells (p : List Nat) : Array Value := #[.int .u32 (rd p 0 4 : Int), .int .u32 (rd p 18 4 : Int), .int .u32 (rd p 22 4 : Int), .int .u64 (rd p 4 8 : Int), .int .u8 (p.getD 12 0 : Int), .int .u8 (p.getD 13 0 : Int), .int .i64 (rd p 14 2 : Int), .int .i64 (rd p 16 2 : Int)]
/-- Block g alone was written into. -/
def Wrote (g : Nat) (w w' : World) : Prop := w.grownBy w' (some g) ∧ w'.heap.size = w.heap.size
theorem wrote_refl (g : Nat) (w : World) : Wrote g w w := ⟨⟨rfl, rfl, rfl, Nat.le_refl _, fun _ _ _ => rfl⟩, rfl⟩
theorem wrote_setCell {g : Nat} {w w' : World} (h : Wrote g w w') (o : Nat) (v : Value) : Wrote g w (w'.setCell ⟨g, o, none⟩ v) :=
  ⟨⟨h.1.os, h.1.tape, h.1.output, by have := h.1.size; simpa using this, fun k hk hne => by
    rw [heap_setCell_other w' ⟨g, o, none⟩ k v (fun e => hne (by rw [e]))]
    exact h.1.block k hk hne⟩, by have := h.2; simpa using this⟩
theorem wrote_drew {g : Nat} {w w' : World} (h : Wrote g w w') : Wrote g w w'.drew := ⟨⟨h.1.os, h.1.tape, h.1.output, h.1.size, h.1.block⟩, h.2⟩
/-- Block g is this row. -/
def Cells (w : World) (g : Nat) (t : TypeId) (cs : Array Value) : Prop := w.heap[g]? = some (.cells cs t (0, 0))
theorem cells_setCell {w : World} {g o : Nat} {t : TypeId} {cs : Array Value} {v : Value} (h : Cells w g t cs) : Cells (w.setCell ⟨g, o, none⟩ v) g t (cs.setIfInBounds o v) := heap_setCell_same w g o cs t v h
theorem cells_drew {w : World} {g : Nat} {t : TypeId} {cs : Array Value} (h : Cells w g t cs) : Cells w.drew g t cs := h

set_option maxHeartbeats 1000000 in
theorem read_any (g : Nat) (c0 c1 c2 c3 c4 c5 c6 c7 : Value) (a : Option Addr) (cap : Nat) (zs : List Nat) (w : World) (hb : BytesAt w a zs) (hne : Apart a g) (hl : 26 ≤ zs.length) (hg : Cells w g 44 #[c0, c1, c2, c3, c4, c5, c6, c7]) :
    Calls Try.prog 25 #[.pointer (some ⟨g, 0, none⟩), .slice a zs.length cap] w fun e w' => e = .returned (.tuple #[]) ∧ Cells w' g 44 (hdCells zs) ∧ Wrote g w w' := by
  have f0 := cell_of_row w g 0 _ _ _ hg
  have f1 := cell_of_row w g 1 _ _ _ hg
  have f2 := cell_of_row w g 2 _ _ _ hg
  have f3 := cell_of_row w g 3 _ _ _ hg
  have f4 := cell_of_row w g 4 _ _ _ hg
  have f5 := cell_of_row w g 5 _ _ _ hg
  have f6 := cell_of_row w g 6 _ _ _ hg
  have f7 := cell_of_row w g 7 _ _ _ hg
  simp only [List.getElem?_toArray, List.getElem?_cons_zero, List.getElem?_cons_succ] at f0 f1 f2 f3 f4 f5 f6 f7
  have hfz : ∀ j, w.frozen? ⟨g, j, none⟩ = false := fun j => frozen_of_row w g j _ _ hg
  have HB := Lib.hid hb
  have HNE := Lib.hid hne
  have HG := Lib.hid hg
  have b0 := rd4 hb.1 0 (by omega)
  have b3 := rd8 hb.1 4 (by omega)
  have b6 := rd2 hb.1 14 (by omega)
  have b7 := rd2 hb.1 16 (by omega)
  have b1 := rd4 hb.1 18 (by omega)
  have b2 := rd4 hb.1 22 (by omega)
  clear hb hne hg
  go_enter Try.func25, Try.ntmps25
  go_wp2_with fail
  refine (number_any a cap zs 0 4 _ HB.out (by omega) (by omega)).mono ?_
  rintro e w' ⟨rfl, rfl⟩
  go_wp2_with fail
  refine (number_any a cap zs 4 8 _ (bytes_setCell HB.out HNE.out) (by omega) (by omega)).mono ?_
  rintro e w' ⟨rfl, rfl⟩
  go_wp2_with fail
  have hG1 : Cells ((w.setCell ⟨g, 0, none⟩ (.int .u32 (rd zs 0 4 : Int))).setCell ⟨g, 3, none⟩ (.int .u64 (rd zs 4 8 : Int))) g 44 #[.int .u32 (rd zs 0 4 : Int), c1, c2, .int .u64 (rd zs 4 8 : Int), c4, c5, c6, c7] := cells_setCell (cells_setCell HG.out)
  have hB1 := bytes_setCell (o := 3) (v := .int .u64 (rd zs 4 8 : Int)) (bytes_setCell (o := 0) (v := .int .u32 (rd zs 0 4 : Int)) HB.out HNE.out) HNE.out
  have hW1 := wrote_setCell (wrote_setCell (wrote_refl g w) 0 (.int .u32 (rd zs 0 4 : Int))) 3 (.int .u64 (rd zs 4 8 : Int))
  generalize (w.setCell ⟨g, 0, none⟩ (.int .u32 (rd zs 0 4 : Int))).setCell ⟨g, 3, none⟩ (.int .u64 (rd zs 4 8 : Int)) = W at hG1 hB1 hW1 ⊢
  have HG1 := Lib.hid hG1; clear hG1
  have HB1 := Lib.hid hB1; clear hB1
  have HW1 := Lib.hid hW1; clear hW1
  clear f0 f1 f2 f3 f4 f5 f6 f7 hfz
  obtain ⟨b, off, rfl, k12⟩ := HB1.out.2.2 12 (by omega)
  obtain ⟨b', off', e', k13⟩ := HB1.out.2.2 13 (by omega)
  cases e'
  have hbg : b ≠ g := HNE.out _ rfl
  obtain ⟨x, hx⟩ : ∃ x, x = zs[12]'(by omega) := ⟨_, rfl⟩
  obtain ⟨y, hy⟩ : ∃ y, y = zs[13]'(by omega) := ⟨_, rfl⟩
  rw [← hx] at k12
  rw [← hy] at k13
  have f4 := cell_of_row W g 4 _ _ _ HG1.out
  have f5 := cell_of_row W g 5 _ _ _ HG1.out
  simp only [List.getElem?_toArray, List.getElem?_cons_zero, List.getElem?_cons_succ] at f4 f5
  have z4 := frozen_of_row W g 4 _ _ HG1.out
  have z5 := frozen_of_row W g 5 _ _ HG1.out
  have HX := Lib.hid hx; clear hx
  have HY := Lib.hid hy; clear hy
  have hlen : 14 ≤ zs.length := by omega
  have HM := Lib.hid HB.out.2.1
  have hm := HM.out; unfold maxLen at hm
  go_region
  have HG2 : Cells ((W.setCell ⟨g, 4, none⟩ (.int .u8 (x : Int))).setCell ⟨g, 5, none⟩ (.int .u8 (y : Int))).drew g 44 #[.int .u32 (rd zs 0 4 : Int), c1, c2, .int .u64 (rd zs 4 8 : Int), .int .u8 (x : Int), .int .u8 (y : Int), c6, c7] := cells_setCell (cells_setCell HG1.out)
  have HB2 : BytesAt ((W.setCell ⟨g, 4, none⟩ (.int .u8 (x : Int))).setCell ⟨g, 5, none⟩ (.int .u8 (y : Int))).drew (some ⟨b, off, none⟩) zs := bytes_setCell (bytes_setCell HB1.out HNE.out) HNE.out
  have HW2 : Wrote g w ((W.setCell ⟨g, 4, none⟩ (.int .u8 (x : Int))).setCell ⟨g, 5, none⟩ (.int .u8 (y : Int))).drew := wrote_drew (wrote_setCell (wrote_setCell HW1.out _ _) _ _)
  generalize ((W.setCell ⟨g, 4, none⟩ (.int .u8 (x : Int))).setCell ⟨g, 5, none⟩ (.int .u8 (y : Int))).drew = V at HG2 HB2 HW2 ⊢
  have HG3 := Lib.hid HG2
  have HB3 := Lib.hid HB2
  have HW3 := Lib.hid HW2
  have v6 := cell_of_row V g 6 _ _ _ HG2
  have v7 := cell_of_row V g 7 _ _ _ HG2
  have v1 := cell_of_row V g 1 _ _ _ HG2
  have v2 := cell_of_row V g 2 _ _ _ HG2
  simp only [List.getElem?_toArray, List.getElem?_cons_zero, List.getElem?_cons_succ] at v6 v7 v1 v2
  have vz : ∀ j, V.frozen? ⟨g, j, none⟩ = false := fun j => frozen_of_row V g j _ _ HG3.out
  clear HG2 HB2 HW2 f4 f5 z4 z5 k12 k13
  go_wp2_with fail
  refine (number_any _ cap zs 14 2 _ HB3.out (by omega) (by omega)).mono ?_
  rintro e w' ⟨rfl, rfl⟩
  go_wp2_with fail
  refine (number_any _ cap zs 16 2 _ (bytes_setCell HB3.out HNE.out) (by omega) (by omega)).mono ?_
  rintro e w' ⟨rfl, rfl⟩
  go_wp2_with fail
  refine (number_any _ cap zs 18 4 _ (bytes_setCell (bytes_setCell HB3.out HNE.out) HNE.out) (by omega) (by omega)).mono ?_
  rintro e w' ⟨rfl, rfl⟩
  go_wp2_with fail
  refine (number_any _ cap zs 22 4 _ (bytes_setCell (bytes_setCell (bytes_setCell HB3.out HNE.out) HNE.out) HNE.out) (by omega) (by omega)).mono ?_
  rintro e w' ⟨rfl, rfl⟩
  go_wp2
  go_end0
  refine ⟨rfl, ?_, wrote_setCell (wrote_setCell (wrote_setCell (wrote_setCell HW3.out _ _) _ _) _ _) _ _⟩
  have hh : hdCells zs = #[.int .u32 (rd zs 0 4 : Int), .int .u32 (rd zs 18 4 : Int), .int .u32 (rd zs 22 4 : Int), .int .u64 (rd zs 4 8 : Int), .int .u8 (x : Int), .int .u8 (y : Int), .int .i64 (rd zs 14 2 : Int), .int .i64 (rd zs 16 2 : Int)] := by
    rw [hdCells, HX.out, HY.out]
    simp only [List.getD_eq_getElem?_getD]
    rw [List.getElem?_eq_getElem (show 12 < zs.length by omega), List.getElem?_eq_getElem (show 13 < zs.length by omega)]
    rfl
  rw [hh]
  exact cells_setCell (cells_setCell (cells_setCell (cells_setCell HG3.out)))
end Go.Proofs.Ytaadeoobmclpcaa

/- A number is laid into a page; a head is written: contracts. -/
import Derived.Test.YtaadeoobmclpcaaPagOpen
namespace Go.Proofs.Ytaadeoobmclpcaa
open Go.ChangeShapes Go.WideShapes Go.ChangeAt Go.RowKit

/-- Bytes as cells. -/
def u8c (zs : List Nat) : Array Value := (zs.map fun z : Nat => Value.int .u8 (z : Int)).toArray
theorem u8c_set (l : List Nat) (j c : Nat) : u8c (l.set j c) = (u8c l).setIfInBounds j (.int .u8 (c : Int)) := by simp [u8c, List.map_set]
theorem u8c_get (l : List Nat) (j : Nat) (hj : j < l.length) : (u8c l)[j]? = some (.int .u8 (l[j] : Int)) := by simp [u8c, hj]
theorem u8c_size (l : List Nat) : (u8c l).size = l.length := by simp [u8c]
theorem shr_cast (n k : Nat) : (n : Int) / 2 ^ (8 * k) % 256 = ((n / 2 ^ (8 * k) % 256 : Nat) : Int) := by rw [Int.natCast_emod, Int.natCast_ediv, Int.natCast_pow]; rfl
theorem cells_bytes {w : World} {g : Nat} {zs : List Nat} (h : Cells w g 5 (u8c zs)) (hz : ∀ c ∈ zs, c < 256) (hm : zs.length ≤ maxLen) : BytesAt w (some ⟨g, 0, none⟩) zs :=
  ⟨hz, hm, fun j hj => ⟨g, 0, rfl, by rw [Nat.zero_add, cell_of_row w g j _ _ _ h, u8c_get zs j hj]⟩⟩

set_option maxHeartbeats 400000 in
theorem lay_any (g cap : Nat) (zs : List Nat) (q n x : Nat) (w : World) (hg : Cells w g 5 (u8c zs)) (hm : zs.length ≤ 1048576) (hn : n ≤ 8) (h1 : q + n ≤ zs.length) :
    Calls Try.prog 24 #[.slice (some ⟨g, 0, none⟩) zs.length cap, .int .i64 (q : Int), .int .i64 (n : Int), .int .u64 (x : Int)] w fun e w' => e = .returned (.tuple #[]) ∧ Cells w' g 5 (u8c (lay zs q x n)) ∧ Wrote g w w' := by
  have HG := Lib.hid hg; clear hg
  go_enter Try.func24, Try.ntmps24
  go_wp2
  go_loopw [10] (fun i wr => ∃ k : Nat, k ≤ n ∧ i = .int .i64 k ∧ Hid (Cells wr g 5 (u8c (lay zs q x k))) ∧ Hid (Wrote g w wr)) (fun i _ => (n - (intOf i)).toNat)
  case atStart => exact ⟨0, by omega, rfl, HG, Lib.hid (wrote_refl g w)⟩
  case round =>
    obtain ⟨k, hk, rfl, HC, HW⟩ := hrel
    by_cases hlt : k < n
    · have hold := cell_of_row wr g (q + k) _ _ _ HC.out
      rw [u8c_get _ _ (by rw [lay_length]; omega)] at hold
      have hfz := frozen_of_row wr g (q + k) _ _ HC.out
      have HX := Lib.hid (shr_cast x k)
      go_wp2
      go_roundw
      case rel =>
        refine ⟨k + 1, by omega, by go_num, Lib.hid ?_, Lib.hid (wrote_setCell HW.out _ _)⟩
        rw [HX.out, lay, u8c_set]
        exact cells_setCell HC.out
      case measure => simp [intOf]; omega
    · obtain rfl : k = n := by omega
      go_wp2
      go_end0
      exact ⟨rfl, HC.out, HW.out⟩

/-- A head's numbers. -/
structure Hd where
  sum : Nat
  link : Nat
  extra : Nat
  lsn : Nat
  kind : Nat
  zero : Nat
  count : Nat
  low : Nat
/-- Its cells. -/
def Hd.cells (h : Hd) : Array Value := #[.int .u32 (h.sum : Int), .int .u32 (h.link : Int), .int .u32 (h.extra : Int), .int .u64 (h.lsn : Int), .int .u8 (h.kind : Int), .int .u8 (h.zero : Int), .int .i64 (h.count : Int), .int .i64 (h.low : Int)]
/-- A page's head. -/
def hdOf (p : List Nat) : Hd := ⟨rd p 0 4, rd p 18 4, rd p 22 4, rd p 4 8, p.getD 12 0, p.getD 13 0, rd p 14 2, rd p 16 2⟩
theorem hdOf_cells (p : List Nat) : hdCells p = (hdOf p).cells := rfl
/-- The page with that head. -/
def wr1 (p : List Nat) (h : Hd) : List Nat := ((lay (lay p 0 h.sum 4) 4 h.lsn 8).set 12 h.kind).set 13 h.zero
def wr (p : List Nat) (h : Hd) : List Nat := lay (lay (lay (lay (wr1 p h) 14 h.count 2) 16 h.low 2) 18 h.link 4) 22 h.extra 4
theorem wr1_length (p : List Nat) (h : Hd) : (wr1 p h).length = p.length := by simp [wr1, lay_length]
theorem wr_length (p : List Nat) (h : Hd) : (wr p h).length = p.length := by simp [wr, lay_length, wr1_length]
/-- Its numbers fit. -/
def Hd.Fits (h : Hd) : Prop := h.sum < 4294967296 ∧ h.link < 4294967296 ∧ h.extra < 4294967296 ∧ h.lsn < 18446744073709551616 ∧ h.kind < 256 ∧ h.zero < 256 ∧ h.count < 65536 ∧ h.low < 65536
theorem wrote_trans {g : Nat} {a b c : World} (h : Wrote g a b) (k : Wrote g b c) : Wrote g a c :=
  ⟨⟨k.1.os.trans h.1.os, k.1.tape.trans h.1.tape, k.1.output.trans h.1.output, Nat.le_trans h.1.size k.1.size, fun i hi hne => (k.1.block i (Nat.lt_of_lt_of_le hi h.1.size) hne).trans (h.1.block i hi hne)⟩, k.2.trans h.2⟩
/-- 'lay_any' at whatever length the slice is written with. -/
theorem lay_of {g cap L : Nat} (zs : List Nat) {w : World} (hL : zs.length = L) (hg : Cells w g 5 (u8c zs)) (q n x : Nat) (hn : n ≤ 8) (h1 : L ≤ 1048576 ∧ q + n ≤ L) :
    Calls Try.prog 24 #[.slice (some ⟨g, 0, none⟩) L cap, .int .i64 (q : Int), .int .i64 (n : Int), .int .u64 (x : Int)] w fun e w' => e = .returned (.tuple #[]) ∧ Cells w' g 5 (u8c (lay zs q x n)) ∧ Wrote g w w' := by
  subst hL
  exact lay_any g cap zs q n x w hg h1.1 hn h1.2

set_option maxHeartbeats 1000000 in
theorem write_any (hb g cap L : Nat) (H : Hd) (zs : List Nat) (w : World) (hF : H.Fits) (hne : hb ≠ g) (hL : zs.length = L) (hm : 26 ≤ L ∧ L ≤ 1048576) (hh : Cells w hb 44 H.cells) (hg : Cells w g 5 (u8c zs)) :
    Calls Try.prog 15 #[.pointer (some ⟨hb, 0, none⟩), .slice (some ⟨g, 0, none⟩) L cap] w fun e w' => e = .returned (.tuple #[]) ∧ Cells w' g 5 (u8c (wr zs H)) ∧ Wrote g w w' := by
  obtain ⟨hs, hk, hx, hl, hi, hz, hc, hv⟩ := hF
  have HH0 := Lib.hid hh
  have HC0 := Lib.hid hg
  have HW0 := Lib.hid (wrote_refl g w)
  obtain ⟨hm1, hm2⟩ := hm
  clear hh hg
  have l0 := cell_of_row w hb 0 _ _ _ HH0.out
  have k0 := cell_of_row w hb 1 _ _ _ HH0.out
  have x0 := cell_of_row w hb 2 _ _ _ HH0.out
  have s0 := cell_of_row w hb 3 _ _ _ HH0.out
  have i0 := cell_of_row w hb 4 _ _ _ HH0.out
  have z0 := cell_of_row w hb 5 _ _ _ HH0.out
  have c0 := cell_of_row w hb 6 _ _ _ HH0.out
  have v0 := cell_of_row w hb 7 _ _ _ HH0.out
  simp only [Hd.cells, List.getElem?_toArray, List.getElem?_cons_zero, List.getElem?_cons_succ] at l0 k0 x0 s0 i0 z0 c0 v0
  go_enter Try.func15, Try.ntmps15
  go_wp2_with fail
  refine ((lay_of (zs) hL HC0.out 0 4 H.sum (by omega) (by omega))).mono ?_
  rintro e w1 ⟨rfl, hc1, hw1⟩
  have HC1 := Lib.hid hc1; clear hc1
  have HH1 := Lib.hid (cells_wrote HH0.out hw1 hne)
  have HW1 := Lib.hid (wrote_trans HW0.out hw1); clear hw1
  have l1 := cell_of_row w1 hb 0 _ _ _ HH1.out
  have k1 := cell_of_row w1 hb 1 _ _ _ HH1.out
  have x1 := cell_of_row w1 hb 2 _ _ _ HH1.out
  have s1 := cell_of_row w1 hb 3 _ _ _ HH1.out
  have i1 := cell_of_row w1 hb 4 _ _ _ HH1.out
  have z1 := cell_of_row w1 hb 5 _ _ _ HH1.out
  have c1 := cell_of_row w1 hb 6 _ _ _ HH1.out
  have v1 := cell_of_row w1 hb 7 _ _ _ HH1.out
  simp only [Hd.cells, List.getElem?_toArray, List.getElem?_cons_zero, List.getElem?_cons_succ] at l1 k1 x1 s1 i1 z1 c1 v1
  go_wp2_with fail
  refine ((lay_of (lay zs 0 H.sum 4) (by rw [lay_length]; exact hL) HC1.out 4 8 H.lsn (by omega) (by omega))).mono ?_
  rintro e w2 ⟨rfl, hc2, hw2⟩
  have HC2 := Lib.hid hc2; clear hc2
  have HH2 := Lib.hid (cells_wrote HH1.out hw2 hne)
  have HW2 := Lib.hid (wrote_trans HW1.out hw2); clear hw2
  have l2 := cell_of_row w2 hb 0 _ _ _ HH2.out
  have k2 := cell_of_row w2 hb 1 _ _ _ HH2.out
  have x2 := cell_of_row w2 hb 2 _ _ _ HH2.out
  have s2 := cell_of_row w2 hb 3 _ _ _ HH2.out
  have i2 := cell_of_row w2 hb 4 _ _ _ HH2.out
  have z2 := cell_of_row w2 hb 5 _ _ _ HH2.out
  have c2 := cell_of_row w2 hb 6 _ _ _ HH2.out
  have v2 := cell_of_row w2 hb 7 _ _ _ HH2.out
  simp only [Hd.cells, List.getElem?_toArray, List.getElem?_cons_zero, List.getElem?_cons_succ] at l2 k2 x2 s2 i2 z2 c2 v2
  go_wp2_with fail
  have hlen2 : (lay (lay zs 0 H.sum 4) 4 H.lsn 8).length = L := by rw [lay_length, lay_length]; exact hL
  have g12 := cell_of_row w2 g 12 _ _ _ HC2.out
  have g13 := cell_of_row w2 g 13 _ _ _ HC2.out
  rw [u8c_get _ _ (by omega)] at g12 g13
  have f12 := frozen_of_row w2 g 12 _ _ HC2.out
  have f13 := frozen_of_row w2 g 13 _ _ HC2.out
  clear l0 k0 x0 s0 i0 z0 c0 v0 l1 k1 x1 s1 i1 z1 c1 v1 l2 k2 x2 s2 c2 v2
  go_region
  have HC3 : Hid (Cells ((w2.setCell ⟨g, 12, none⟩ (.int .u8 (H.kind : Int))).setCell ⟨g, 13, none⟩ (.int .u8 (H.zero : Int))).drew g 5 (u8c (wr1 zs H))) := by
    refine Lib.hid ?_
    rw [wr1, u8c_set, u8c_set]
    exact cells_setCell (cells_setCell HC2.out)
  have HH3 : Hid (Cells ((w2.setCell ⟨g, 12, none⟩ (.int .u8 (H.kind : Int))).setCell ⟨g, 13, none⟩ (.int .u8 (H.zero : Int))).drew hb 44 H.cells) := Lib.hid (cells_setOther (cells_setOther HH2.out hne) hne)
  have HW3 : Hid (Wrote g w ((w2.setCell ⟨g, 12, none⟩ (.int .u8 (H.kind : Int))).setCell ⟨g, 13, none⟩ (.int .u8 (H.zero : Int))).drew) := Lib.hid (wrote_drew (wrote_setCell (wrote_setCell HW2.out _ _) _ _))
  generalize ((w2.setCell ⟨g, 12, none⟩ (.int .u8 (H.kind : Int))).setCell ⟨g, 13, none⟩ (.int .u8 (H.zero : Int))).drew = w3 at HC3 HH3 HW3 ⊢
  clear g12 g13 f12 f13 i2 z2
  have l3 := cell_of_row w3 hb 0 _ _ _ HH3.out
  have k3 := cell_of_row w3 hb 1 _ _ _ HH3.out
  have x3 := cell_of_row w3 hb 2 _ _ _ HH3.out
  have c3 := cell_of_row w3 hb 6 _ _ _ HH3.out
  have v3 := cell_of_row w3 hb 7 _ _ _ HH3.out
  simp only [Hd.cells, List.getElem?_toArray, List.getElem?_cons_zero, List.getElem?_cons_succ] at l3 k3 x3 c3 v3
  go_wp2_with fail
  refine ((lay_of (wr1 zs H) (by rw [wr1_length]; exact hL) HC3.out 14 2 H.count (by omega) (by omega))).mono ?_
  rintro e w4 ⟨rfl, hc4, hw4⟩
  have HC4 := Lib.hid hc4; clear hc4
  have HH4 := Lib.hid (cells_wrote HH3.out hw4 hne)
  have HW4 := Lib.hid (wrote_trans HW3.out hw4); clear hw4
  have l4 := cell_of_row w4 hb 0 _ _ _ HH4.out
  have k4 := cell_of_row w4 hb 1 _ _ _ HH4.out
  have x4 := cell_of_row w4 hb 2 _ _ _ HH4.out
  have c4 := cell_of_row w4 hb 6 _ _ _ HH4.out
  have v4 := cell_of_row w4 hb 7 _ _ _ HH4.out
  simp only [Hd.cells, List.getElem?_toArray, List.getElem?_cons_zero, List.getElem?_cons_succ] at l4 k4 x4 c4 v4
  go_wp2_with fail
  refine ((lay_of (lay (wr1 zs H) 14 H.count 2) (by simp [lay_length, wr1_length]; exact hL) HC4.out 16 2 H.low (by omega) (by omega))).mono ?_
  rintro e w5 ⟨rfl, hc5, hw5⟩
  have HC5 := Lib.hid hc5; clear hc5
  have HH5 := Lib.hid (cells_wrote HH4.out hw5 hne)
  have HW5 := Lib.hid (wrote_trans HW4.out hw5); clear hw5
  have l5 := cell_of_row w5 hb 0 _ _ _ HH5.out
  have k5 := cell_of_row w5 hb 1 _ _ _ HH5.out
  have x5 := cell_of_row w5 hb 2 _ _ _ HH5.out
  have c5 := cell_of_row w5 hb 6 _ _ _ HH5.out
  have v5 := cell_of_row w5 hb 7 _ _ _ HH5.out
  simp only [Hd.cells, List.getElem?_toArray, List.getElem?_cons_zero, List.getElem?_cons_succ] at l5 k5 x5 c5 v5
  go_wp2_with fail
  refine ((lay_of (lay (lay (wr1 zs H) 14 H.count 2) 16 H.low 2) (by simp [lay_length, wr1_length]; exact hL) HC5.out 18 4 H.link (by omega) (by omega))).mono ?_
  rintro e w6 ⟨rfl, hc6, hw6⟩
  have HC6 := Lib.hid hc6; clear hc6
  have HH6 := Lib.hid (cells_wrote HH5.out hw6 hne)
  have HW6 := Lib.hid (wrote_trans HW5.out hw6); clear hw6
  have l6 := cell_of_row w6 hb 0 _ _ _ HH6.out
  have k6 := cell_of_row w6 hb 1 _ _ _ HH6.out
  have x6 := cell_of_row w6 hb 2 _ _ _ HH6.out
  have c6 := cell_of_row w6 hb 6 _ _ _ HH6.out
  have v6 := cell_of_row w6 hb 7 _ _ _ HH6.out
  simp only [Hd.cells, List.getElem?_toArray, List.getElem?_cons_zero, List.getElem?_cons_succ] at l6 k6 x6 c6 v6
  go_wp2_with fail
  refine ((lay_of (lay (lay (lay (wr1 zs H) 14 H.count 2) 16 H.low 2) 18 H.link 4) (by simp [lay_length, wr1_length]; exact hL) HC6.out 22 4 H.extra (by omega) (by omega))).mono ?_
  rintro e w7 ⟨rfl, hc7, hw7⟩
  have HC7 := Lib.hid hc7; clear hc7
  have HH7 := Lib.hid (cells_wrote HH6.out hw7 hne)
  have HW7 := Lib.hid (wrote_trans HW6.out hw7); clear hw7
  go_wp2
  go_end0
  exact ⟨rfl, HC7.out, HW7.out⟩
end Go.Proofs.Ytaadeoobmclpcaa

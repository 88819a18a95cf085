/- Put where it refuses; the law's first sentence: contracts. -/
import Derived.Test.YtflepcoiidaekaaDoorSumPut
import Derived.Lib.SlBytesConst
namespace Go.Proofs.YtflepcoiidaekaaDoor
open Go.ChangeShapes Go.WideShapes Go.ChangeAt Go.RowKit

theorem put_no (a : Option Addr) (len cap : Nat) (p size n : Int) (w : World) (hm : len ≤ maxLen) (h : ¬ ((size = 1 ∨ size = 2 ∨ size = 4 ∨ size = 8) ∧ 0 ≤ p ∧ p + size ≤ len)) :
    Calls Tryd.prog 9 #[.slice a len cap, .int .i64 p, .int .i64 size, .int .u64 n] w fun e w' => e = .returned (.tuple #[.slice none 0 0, .int .i64 1]) ∧ w = w' := by
  have H : Calls Tryd.prog 18 #[.slice a len cap, .int .i64 p, .int .i64 size] w fun e w' => e = .returned (.bool false) ∧ w = w' := by
    by_cases hs : size = 1 ∨ size = 2 ∨ size = 4 ∨ size = 8
    · exact within_no a len cap p size w hm hs (fun h' => h ⟨hs, h'⟩)
    · exact within_none a len cap p size w (by omega) (by omega) (by omega) (by omega)
  clear h
  go_enter Tryd.func9, Tryd.ntmps9
  go_wp2_with (go_at_call 18; refine H.mono ?_; rintro e w' ⟨rfl, rfl⟩)
  go_ret2
  exact ⟨rfl, rfl⟩
theorem put_big (a : Option Addr) (len cap : Nat) (p size : Int) (n : Nat) (w : World) (hm : len ≤ maxLen) (hs : size = 1 ∧ 256 ≤ n ∨ size = 2 ∧ 65536 ≤ n ∨ size = 4 ∧ 4294967296 ≤ n) (h0 : 0 ≤ p) (h1 : p + size ≤ len) :
    Calls Tryd.prog 9 #[.slice a len cap, .int .i64 p, .int .i64 size, .int .u64 (n : Int)] w fun e w' => e = .returned (.tuple #[.slice none 0 0, .int .i64 2]) ∧ w = w' := by
  have HY := Lib.hid (within_yes a len cap p size w hm (by omega) h0 h1)
  clear hm h0 h1
  rcases hs with ⟨rfl, hn⟩ | ⟨rfl, hn⟩ | ⟨rfl, hn⟩
  · have hn' : ((n : Int) / 256 != 0) = true := by simp; omega
    go_enter Tryd.func9, Tryd.ntmps9
    go_wp2_with (go_at_call 18; refine HY.out.mono ?_; rintro e w' ⟨rfl, rfl⟩)
    go_ret2
    exact ⟨rfl, rfl⟩
  · have hn' : ((n : Int) / 65536 != 0) = true := by simp; omega
    go_enter Tryd.func9, Tryd.ntmps9
    go_wp2_with (go_at_call 18; refine HY.out.mono ?_; rintro e w' ⟨rfl, rfl⟩)
    go_ret2
    exact ⟨rfl, rfl⟩
  · have hn' : ((n : Int) / 4294967296 != 0) = true := by simp; omega
    go_enter Tryd.func9, Tryd.ntmps9
    go_wp2_with (go_at_call 18; refine HY.out.mono ?_; rintro e w' ⟨rfl, rfl⟩)
    go_ret2
    exact ⟨rfl, rfl⟩

theorem tab_pos {w : World} (h : TabAt w) : 0 < w.heap.size := by
  have := World.block_lt_of_cell? w _ (h 0 (by decide)); exact this
theorem tab_below {w w' : World} (h : TabAt w) (hb : Below w.heap.size w w') : TabAt w' := fun j hj => (hb.cell (tab_pos h)).trans (h j hj)
theorem bytes_below {w w' : World} {a : Option Addr} {zs : List Nat} (h : BytesAt w a zs) (hb : Below w.heap.size w w') : BytesAt w' a zs :=
  ⟨h.1, h.2.1, fun j hj => by
    obtain ⟨b, off, e, hc⟩ := h.2.2 j hj
    exact ⟨b, off, e, (hb.cell (World.block_lt_of_cell? w _ hc)).trans hc⟩⟩
theorem below_alloc (w : World) (o : Obj) : Below w.heap.size w (w.alloc o) := (Below.refl _ _).alloc (Nat.le_refl _) o
/-- A row that has just been laid reads as its bytes. -/
theorem bytes_new (w : World) (zs : List Nat) (hz : ∀ c ∈ zs, c < 256) (hm : zs.length ≤ maxLen) (fr : Nat × Nat) : BytesAt (w.alloc (.cells (u8s zs).toArray 5 fr)) (some ⟨w.heap.size, 0, none⟩) zs :=
  ⟨hz, hm, fun j hj => ⟨_, _, rfl, by rw [World.cell?_alloc_mark]; simp [u8s, hj]⟩⟩

theorem more_a : more 0 [97] = 3904355907 := by decide +kernel
theorem num_21 : num [2, 1] = 258 := by decide

set_option maxHeartbeats 400000 in
theorem awake_any (w : World) (hT : TabAt w) : Calls Tryd.prog 10 #[] w fun e w' => e = .returned (.bool true) ∧ Below w.heap.size w w' := by
  have h1 : BytesAt (w.alloc (.cells #[.int .u8 2, .int .u8 1] 5)) (some ⟨w.heap.size, 0, none⟩) [2, 1] := bytes_new w [2, 1] (by decide) (by unfold maxLen; decide) (0, 0)
  have hb1 := below_alloc w (.cells #[.int .u8 2, .int .u8 1] 5)
  have hT1 := tab_below hT hb1
  have H1 : Hid (Calls Tryd.prog 12 #[.slice (some ⟨w.heap.size, 0, none⟩) 2 2, .int .i64 0, .int .i64 2] (w.alloc (.cells #[.int .u8 2, .int .u8 1] 5)) fun e w' => e = .returned (.tuple #[.int .u64 258, .int .i64 0]) ∧ (w.alloc (.cells #[.int .u8 2, .int .u8 1] 5)) = w') :=
    Lib.hid (get_yes _ 2 [2, 1] 0 2 _ h1 (by decide) (by decide))
  have h2 : BytesAt ((w.alloc (.cells #[.int .u8 2, .int .u8 1] 5)).alloc (.cells #[.int .u8 97] 5 (1, 2))) (some ⟨(w.alloc (.cells #[.int .u8 2, .int .u8 1] 5)).heap.size, 0, none⟩) [97] := bytes_new (w.alloc (.cells #[.int .u8 2, .int .u8 1] 5)) [97] (by decide) (by unfold maxLen; decide) (1, 2)
  have hb2 := below_alloc (w.alloc (.cells #[.int .u8 2, .int .u8 1] 5)) (.cells #[.int .u8 97] 5 (1, 2))
  have H2 : Hid (Calls Tryd.prog 8 #[.slice (some ⟨w.heap.size + 1, 0, none⟩) 1 1] ((w.alloc (.cells #[.int .u8 2, .int .u8 1] 5)).alloc (.cells #[.int .u8 97] 5 (1, 2))) fun e w' => e = .returned (.int .u32 3904355907) ∧ ((w.alloc (.cells #[.int .u8 2, .int .u8 1] 5)).alloc (.cells #[.int .u8 97] 5 (1, 2))) = w') := by
    have := of_any _ 1 [97] _ h2 (tab_below hT1 hb2)
    rw [more_a] at this
    simp only [World.size_alloc] at this
    exact Lib.hid this
  have HB := Lib.hid (hb1.trans (hb2.mono (by simp)))
  clear h1 h2 hb1 hb2 hT1 hT
  have kc := Lib.run_convert_bytes_const (P := Tryd.prog) (w.alloc (.cells #[.int .u8 2, .int .u8 1] 5)) 27 5 #[.int .u8 97] 1 1 Tryd.underlying27 Tryd.underlying5
  simp only [World.size_alloc] at kc
  go_enter Tryd.func10, Tryd.ntmps10
  go_wp2_with (first | (go_at_call 12; refine H1.out.mono ?_; rintro e w' ⟨rfl, rfl⟩) | (go_at_call 8; refine H2.out.mono ?_; rintro e w' ⟨rfl, rfl⟩))
  go_ret
  exact ⟨rfl, HB.out⟩
end Go.Proofs.YtflepcoiidaekaaDoor

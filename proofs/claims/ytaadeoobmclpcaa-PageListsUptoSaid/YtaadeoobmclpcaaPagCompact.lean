/- What is refused; Count; a page laid out anew by Compact: contracts. -/
import Derived.Test.YtaadeoobmclpcaaPagReplace
namespace Go.Proofs.Ytaadeoobmclpcaa
open Go.ChangeShapes Go.WideShapes Go.ChangeAt Go.RowKit

attribute [local irreducible] relaid
set_option maxHeartbeats 1000000 in
theorem replace_arg {a : Option Addr} {cap : Nat} {zs : List Nat} (i : Int) (c : Value) {w : World} (hb : BytesAt w a zs) (hg : Good zs) (hi : i < 0 ∨ (rd zs 14 2 : Int) ≤ i) :
    Calls Try.prog 9 #[.slice a 512 cap, .int .i64 i, c] w fun e w' => e = .returned (.tuple #[.slice none 0 0, .int .i64 1]) ∧ Below w.heap.size w w' := by
  have hl : zs.length = 512 := hg.1
  have HO : Hid (Calls Try.prog 16 #[.slice a 512 cap] w (OpenedGood w zs)) := by
    have := open_good (cap := cap) hb hg
    rw [hl] at this
    exact Lib.hid this
  have HONE := Lib.hid (hd_one (hdOf zs))
  obtain ⟨n, hcc⟩ : ∃ n, n = rd zs 14 2 := ⟨_, rfl⟩
  have HCC := Lib.hid hcc
  rw [← hcc] at hi
  clear hb hg hl hcc
  by_cases h0 : i < 0
  all_goals
    go_enter Try.func9, Try.ntmps9
    go_wp2_with (first | (go_at_call 16; refine HO.out.mono ?_; rintro e w' ⟨rfl, hbel⟩; have HB := Lib.hid hbel; clear hbel) | (refine wpList_store_row rfl 44 (.tmp 8) _ rfl w'.heap.size (hdOf zs).cells rfl rfl 44 _ (cells_new w' 44 head0) (size58 _ rfl) rfl HONE.out ?_; have HH1 : Hid (Cells ((w'.alloc (.cells #[.int .u32 0, .int .u32 0, .int .u32 0, .int .u64 0, .int .u8 0, .int .u8 0, .int .i64 0, .int .i64 0] 44)).setRow w'.heap.size (hdOf zs).cells) w'.heap.size 44 (hdOf zs).cells) := Lib.hid (setRow_heap _ _ _ (hdOf zs).cells _ _ (cells_new w' 44 head0)); have HB1 : Hid (Below w.heap.size w ((w'.alloc (.cells #[.int .u32 0, .int .u32 0, .int .u32 0, .int .u64 0, .int .u8 0, .int .u8 0, .int .i64 0, .int .i64 0] 44)).setRow w'.heap.size (hdOf zs).cells)) := Lib.hid (below_head HB.out HB.out.size (hdOf zs).cells); generalize (w'.alloc (.cells #[.int .u32 0, .int .u32 0, .int .u32 0, .int .u64 0, .int .u8 0, .int .u8 0, .int .i64 0, .int .i64 0] 44)).setRow w'.heap.size (hdOf zs).cells = V at HH1 HB1 ⊢; have c6 : V.cell? ⟨w'.heap.size, 6, none⟩ = some (.int .i64 (n : Int)) := by (rw [HCC.out]; exact (cell_of_row V w'.heap.size 6 _ _ _ HH1.out).trans rfl)))
    go_ret2
    exact ⟨rfl, HB1.out⟩
set_option maxHeartbeats 1000000 in
theorem remove_arg {a : Option Addr} {cap : Nat} {zs : List Nat} (i : Int) {w : World} (hb : BytesAt w a zs) (hg : Good zs) (hi : i < 0 ∨ (rd zs 14 2 : Int) ≤ i) :
    Calls Try.prog 8 #[.slice a 512 cap, .int .i64 i] w fun e w' => e = .returned (.tuple #[.slice none 0 0, .int .i64 1]) ∧ Below w.heap.size w w' := by
  have hl : zs.length = 512 := hg.1
  have HO : Hid (Calls Try.prog 16 #[.slice a 512 cap] w (OpenedGood w zs)) := by
    have := open_good (cap := cap) hb hg
    rw [hl] at this
    exact Lib.hid this
  have HONE := Lib.hid (hd_one (hdOf zs))
  obtain ⟨n, hcc⟩ : ∃ n, n = rd zs 14 2 := ⟨_, rfl⟩
  have HCC := Lib.hid hcc
  rw [← hcc] at hi
  clear hb hg hl hcc
  by_cases h0 : i < 0
  all_goals
    go_enter Try.func8, Try.ntmps8
    go_wp2_with (first | (go_at_call 16; refine HO.out.mono ?_; rintro e w' ⟨rfl, hbel⟩; have HB := Lib.hid hbel; clear hbel) | (refine wpList_store_row rfl 44 (.tmp 6) _ rfl w'.heap.size (hdOf zs).cells rfl rfl 44 _ (cells_new w' 44 head0) (size58 _ rfl) rfl HONE.out ?_; have HH1 : Hid (Cells ((w'.alloc (.cells #[.int .u32 0, .int .u32 0, .int .u32 0, .int .u64 0, .int .u8 0, .int .u8 0, .int .i64 0, .int .i64 0] 44)).setRow w'.heap.size (hdOf zs).cells) w'.heap.size 44 (hdOf zs).cells) := Lib.hid (setRow_heap _ _ _ (hdOf zs).cells _ _ (cells_new w' 44 head0)); have HB1 : Hid (Below w.heap.size w ((w'.alloc (.cells #[.int .u32 0, .int .u32 0, .int .u32 0, .int .u64 0, .int .u8 0, .int .u8 0, .int .i64 0, .int .i64 0] 44)).setRow w'.heap.size (hdOf zs).cells)) := Lib.hid (below_head HB.out HB.out.size (hdOf zs).cells); generalize (w'.alloc (.cells #[.int .u32 0, .int .u32 0, .int .u32 0, .int .u64 0, .int .u8 0, .int .u8 0, .int .i64 0, .int .i64 0] 44)).setRow w'.heap.size (hdOf zs).cells = V at HH1 HB1 ⊢; have c6 : V.cell? ⟨w'.heap.size, 6, none⟩ = some (.int .i64 (n : Int)) := by (rw [HCC.out]; exact (cell_of_row V w'.heap.size 6 _ _ _ HH1.out).trans rfl)))
    go_ret2
    exact ⟨rfl, HB1.out⟩
set_option maxHeartbeats 1000000 in
theorem cell_arg {a : Option Addr} {cap : Nat} {zs : List Nat} (i : Int) {w : World} (hb : BytesAt w a zs) (hg : Good zs) (hi : i < 0 ∨ (rd zs 14 2 : Int) ≤ i) :
    Calls Try.prog 14 #[.slice a 512 cap, .int .i64 i] w fun e w' => e = .returned (.tuple #[.slice none 0 0, .int .i64 1]) ∧ Below w.heap.size w w' := by
  have hl : zs.length = 512 := hg.1
  have HO : Hid (Calls Try.prog 16 #[.slice a 512 cap] w (OpenedGood w zs)) := by
    have := open_good (cap := cap) hb hg
    rw [hl] at this
    exact Lib.hid this
  have HONE := Lib.hid (hd_one (hdOf zs))
  obtain ⟨n, hcc⟩ : ∃ n, n = rd zs 14 2 := ⟨_, rfl⟩
  have HCC := Lib.hid hcc
  rw [← hcc] at hi
  clear hb hg hl hcc
  by_cases h0 : i < 0
  all_goals
    go_enter Try.func14, Try.ntmps14
    go_wp2_with (first | (go_at_call 16; refine HO.out.mono ?_; rintro e w' ⟨rfl, hbel⟩; have HB := Lib.hid hbel; clear hbel) | (refine wpList_store_row rfl 44 (.tmp 6) _ rfl w'.heap.size (hdOf zs).cells rfl rfl 44 _ (cells_new w' 44 head0) (size58 _ rfl) rfl HONE.out ?_; have HH1 : Hid (Cells ((w'.alloc (.cells #[.int .u32 0, .int .u32 0, .int .u32 0, .int .u64 0, .int .u8 0, .int .u8 0, .int .i64 0, .int .i64 0] 44)).setRow w'.heap.size (hdOf zs).cells) w'.heap.size 44 (hdOf zs).cells) := Lib.hid (setRow_heap _ _ _ (hdOf zs).cells _ _ (cells_new w' 44 head0)); have HB1 : Hid (Below w.heap.size w ((w'.alloc (.cells #[.int .u32 0, .int .u32 0, .int .u32 0, .int .u64 0, .int .u8 0, .int .u8 0, .int .i64 0, .int .i64 0] 44)).setRow w'.heap.size (hdOf zs).cells)) := Lib.hid (below_head HB.out HB.out.size (hdOf zs).cells); generalize (w'.alloc (.cells #[.int .u32 0, .int .u32 0, .int .u32 0, .int .u64 0, .int .u8 0, .int .u8 0, .int .i64 0, .int .i64 0] 44)).setRow w'.heap.size (hdOf zs).cells = V at HH1 HB1 ⊢; have c6 : V.cell? ⟨w'.heap.size, 6, none⟩ = some (.int .i64 (n : Int)) := by (rw [HCC.out]; exact (cell_of_row V w'.heap.size 6 _ _ _ HH1.out).trans rfl)))
    go_ret2
    exact ⟨rfl, HB1.out⟩
theorem Replace_bad {a : Option Addr} {cap : Nat} {zs : List Nat} (i : Int) (c : Value) {w : World} (hb : BytesAt w a zs) (hg : ¬ Good zs) : Calls Try.prog 9 #[.slice a zs.length cap, .int .i64 i, c] w fun e w' => e = .returned (.tuple #[.slice none 0 0, .int .i64 4]) ∧ Below w.heap.size w w' := by
  have HO := Lib.hid (open_bad (cap := cap) hb hg)
  clear hb hg
  go_enter Try.func9, Try.ntmps9
  go_wp2_with (first | (go_at_call 16; refine HO.out.mono ?_; rintro e w' ⟨cs, rfl, hbel, h8, h1⟩; have HB := Lib.hid hbel; have HS := Lib.hid (size58 cs h8); have HS0 : Hid (head0.size = cs.size) := Lib.hid h8.symm; have H1 := Lib.hid h1; clear hbel h8 h1) | (refine wpList_store_row rfl 44 (.tmp 8) _ rfl w'.heap.size cs rfl rfl 44 _ (cells_new w' 44 head0) HS.out HS0.out H1.out ?_))
  go_ret2
  exact ⟨rfl, below_head HB.out HB.out.size _⟩
theorem Compact_bad {a : Option Addr} {cap : Nat} {zs : List Nat} {w : World} (hb : BytesAt w a zs) (hg : ¬ Good zs) : Calls Try.prog 6 #[.slice a zs.length cap] w fun e w' => e = .returned (.tuple #[.slice none 0 0, .int .i64 4]) ∧ Below w.heap.size w w' := by
  have HO := Lib.hid (open_bad (cap := cap) hb hg)
  clear hb hg
  go_enter Try.func6, Try.ntmps6
  go_wp2_with (first | (go_at_call 16; refine HO.out.mono ?_; rintro e w' ⟨cs, rfl, hbel, h8, h1⟩; have HB := Lib.hid hbel; have HS := Lib.hid (size58 cs h8); have HS0 : Hid (head0.size = cs.size) := Lib.hid h8.symm; have H1 := Lib.hid h1; clear hbel h8 h1) | (refine wpList_store_row rfl 44 (.tmp 4) _ rfl w'.heap.size cs rfl rfl 44 _ (cells_new w' 44 head0) HS.out HS0.out H1.out ?_))
  go_ret2
  exact ⟨rfl, below_head HB.out HB.out.size _⟩
set_option maxHeartbeats 1000000 in
theorem compact_good {gs off cap : Nat} {zs : List Nat} {w : World} (hb : BytesAt w (some ⟨gs, off, none⟩) zs) (hcap : 512 ≤ cap) (hc63 : cap ≤ 9223372036854775807) (hg : Good zs) :
    Calls Try.prog 6 #[.slice (some ⟨gs, off, none⟩) 512 cap] w (PageOut w (relaid zs (hdOf zs))) := by
  have hl : zs.length = 512 := hg.1
  have HO : Hid (Calls Try.prog 16 #[.slice (some ⟨gs, off, none⟩) 512 cap] w (OpenedGood w zs)) := by
    have := open_good (cap := cap) hb hg
    rw [hl] at this
    exact Lib.hid this
  have HONE := Lib.hid (hd_one (hdOf zs))
  have HRE : Hid (∀ (V : World) (hb : Nat), w.heap.size ≤ hb → Below w.heap.size w V → Cells V hb 44 (hdOf zs).cells → Calls Try.prog 17 #[.pointer (some ⟨hb, 0, none⟩), .slice (some ⟨gs, off, none⟩) 512 cap] V (RelOut V hb (hdOf zs) zs)) := Lib.hid (fun V h' hle hV hh => by
    refine relaid_any (bytes_below hb hV) hl hcap hc63 (good_fitting hg) (hdOf_fits hb.1 (by omega)) hh ?_
    obtain ⟨b, o, e, hcell⟩ := hb.2.2 0 (by omega)
    cases e
    have := World.block_lt_of_cell? w _ hcell
    have h1 : gs < w.heap.size := this
    omega)
  clear hb hg hl
  go_enter Try.func6, Try.ntmps6
  go_wp2_with (first | (go_at_call 16; refine HO.out.mono ?_; rintro e w' ⟨rfl, hbel⟩; have HB := Lib.hid hbel; clear hbel) | (refine wpList_store_row rfl 44 (.tmp 4) _ rfl w'.heap.size (hdOf zs).cells rfl rfl 44 _ (cells_new w' 44 head0) (size58 _ rfl) rfl HONE.out ?_; have HH1 : Hid (Cells ((w'.alloc (.cells #[.int .u32 0, .int .u32 0, .int .u32 0, .int .u64 0, .int .u8 0, .int .u8 0, .int .i64 0, .int .i64 0] 44)).setRow w'.heap.size (hdOf zs).cells) w'.heap.size 44 (hdOf zs).cells) := Lib.hid (setRow_heap _ _ _ (hdOf zs).cells _ _ (cells_new w' 44 head0)); have HB1 : Hid (Below w.heap.size w ((w'.alloc (.cells #[.int .u32 0, .int .u32 0, .int .u32 0, .int .u64 0, .int .u8 0, .int .u8 0, .int .i64 0, .int .i64 0] 44)).setRow w'.heap.size (hdOf zs).cells)) := Lib.hid (below_head HB.out HB.out.size (hdOf zs).cells); generalize (w'.alloc (.cells #[.int .u32 0, .int .u32 0, .int .u32 0, .int .u64 0, .int .u8 0, .int .u8 0, .int .i64 0, .int .i64 0] 44)).setRow w'.heap.size (hdOf zs).cells = V at HH1 HB1 ⊢) | (go_at_call 17; refine (HRE.out V w'.heap.size HB.out.size HB1.out HH1.out).mono ?_; rintro e w4 ⟨rfl, hc4, hh4, hb4⟩; have HC4 := Lib.hid hc4; have HB4 := Lib.hid hb4; clear hc4 hh4 hb4))
  go_ret2
  exact ⟨_, rfl, HC4.out, HB1.out.size, HB1.out.trans (HB4.out.mono HB.out.size)⟩
end Go.Proofs.Ytaadeoobmclpcaa

/- What a page that is no good one is told; Free of a good page: contracts. -/
import Derived.Test.YtaadeoobmclpcaaPagLists
namespace Go.Proofs.Ytaadeoobmclpcaa
open Go.ChangeShapes Go.WideShapes Go.ChangeAt Go.RowKit

set_option maxHeartbeats 1000000 in
theorem Free_good {a : Option Addr} {cap : Nat} {zs : List Nat} {w : World} (hb : BytesAt w a zs) (hg : Good zs) :
    Calls Try.prog 12 #[.slice a 512 cap] w fun e w' => e = .returned (.tuple #[.int .i64 (486 - 4 * (rd zs 14 2 : Int) - (sizes zs (rd zs 14 2) : Int)), .int .i64 0]) ∧ Below w.heap.size w w' := by
  have hl : zs.length = 512 := hg.1
  have HO : Hid (Calls Try.prog 16 #[.slice a 512 cap] w (OpenedGood w zs)) := by
    have := open_good (cap := cap) hb hg
    rw [hl] at this
    exact Lib.hid this
  have HONE := Lib.hid (hd_one (hdOf zs))
  have h2 := hg.2.2.1
  have h3 := hg.2.2.2.1
  have HL := Lib.hid hl
  have HBY := Lib.hid hb
  obtain ⟨c, hcc⟩ : ∃ c, c = rd zs 14 2 := ⟨_, rfl⟩
  have HCC := Lib.hid hcc
  rw [← hcc] at h2 ⊢
  have h26 : 26 + 4 * c ≤ 512 := by omega
  obtain ⟨f, hf⟩ : ∃ f, f = sizes zs c := ⟨_, rfl⟩
  have HF := Lib.hid hf
  rw [← hf]
  clear hb hg hl hcc h2 h3 hf
  go_enter Try.func12, Try.ntmps12
  go_wp2_with (first | (go_at_call 16; refine HO.out.mono ?_; rintro e w' ⟨rfl, hbel⟩; have HB := Lib.hid hbel; clear hbel) | (refine wpList_store_row rfl 44 (.tmp 4) _ rfl w'.heap.size (hdOf zs).cells rfl rfl 44 _ (cells_new w' 44 head0) (size58 _ rfl) rfl HONE.out ?_; have HH1 : Hid (Cells ((w'.alloc (.cells #[.int .u32 0, .int .u32 0, .int .u32 0, .int .u64 0, .int .u8 0, .int .u8 0, .int .i64 0, .int .i64 0] 44)).setRow w'.heap.size (hdOf zs).cells) w'.heap.size 44 (hdOf zs).cells) := Lib.hid (setRow_heap _ _ _ (hdOf zs).cells _ _ (cells_new w' 44 head0)); have HB1 : Hid (Below w.heap.size w ((w'.alloc (.cells #[.int .u32 0, .int .u32 0, .int .u32 0, .int .u64 0, .int .u8 0, .int .u8 0, .int .i64 0, .int .i64 0] 44)).setRow w'.heap.size (hdOf zs).cells)) := Lib.hid (below_head HB.out HB.out.size (hdOf zs).cells); generalize (w'.alloc (.cells #[.int .u32 0, .int .u32 0, .int .u32 0, .int .u64 0, .int .u8 0, .int .u8 0, .int .i64 0, .int .i64 0] 44)).setRow w'.heap.size (hdOf zs).cells = V at HH1 HB1 ⊢; have c6 : V.cell? ⟨w'.heap.size, 6, none⟩ = some (.int .i64 (c : Int)) := by (rw [HCC.out]; exact (cell_of_row V w'.heap.size 6 _ _ _ HH1.out).trans rfl)) | (go_at_call 18; refine (free_any w'.heap.size c cap a zs V (bytes_below HBY.out HB1.out) HL.out c6 h26).mono ?_; rw [← HF.out]; rintro e V ⟨rfl, rfl⟩))
  go_ret2
  exact ⟨rfl, HB1.out⟩
theorem Free_bad {a : Option Addr} {cap : Nat} {zs : List Nat} {w : World} (hb : BytesAt w a zs) (hg : ¬ Good zs) : Calls Try.prog 12 #[.slice a zs.length cap] w fun e w' => e = .returned (.tuple #[.int .i64 0, .int .i64 4]) ∧ Below w.heap.size w w' := by
  have HO := Lib.hid (open_bad (cap := cap) hb hg)
  clear hb hg
  go_enter Try.func12, Try.ntmps12
  go_wp2_with (first | (go_at_call 16; refine HO.out.mono ?_; rintro e w' ⟨cs, rfl, hbel, h8, h1⟩; have HB := Lib.hid hbel; have HS := Lib.hid (size58 cs h8); have HS0 : Hid (head0.size = cs.size) := Lib.hid h8.symm; have H1 := Lib.hid h1; clear hbel h8 h1) | (refine wpList_store_row rfl 44 (.tmp 4) _ rfl w'.heap.size cs rfl rfl 44 _ (cells_new w' 44 head0) HS.out HS0.out H1.out ?_))
  go_ret2
  exact ⟨rfl, below_head HB.out HB.out.size _⟩
theorem Cells_bad {a : Option Addr} {cap : Nat} {zs : List Nat} {w : World} (hb : BytesAt w a zs) (hg : ¬ Good zs) : Calls Try.prog 11 #[.slice a zs.length cap] w fun e w' => e = .returned (.tuple #[.slice none 0 0, .int .i64 4]) ∧ Below w.heap.size w w' := by
  have HO := Lib.hid (open_bad (cap := cap) hb hg)
  clear hb hg
  go_enter Try.func11, Try.ntmps11
  go_wp2_with (first | (go_at_call 16; refine HO.out.mono ?_; rintro e w' ⟨cs, rfl, hbel, h8, h1⟩; have HB := Lib.hid hbel; have HS := Lib.hid (size58 cs h8); have HS0 : Hid (head0.size = cs.size) := Lib.hid h8.symm; have H1 := Lib.hid h1; clear hbel h8 h1) | (refine wpList_store_row rfl 44 (.tmp 4) _ rfl w'.heap.size cs rfl rfl 44 _ (cells_new w' 44 head0) HS.out HS0.out H1.out ?_))
  go_ret2
  exact ⟨rfl, below_head HB.out HB.out.size _⟩
theorem Cell_bad {a : Option Addr} {cap : Nat} {zs : List Nat} (i : Int) {w : World} (hb : BytesAt w a zs) (hg : ¬ Good zs) : Calls Try.prog 14 #[.slice a zs.length cap, .int .i64 i] w fun e w' => e = .returned (.tuple #[.slice none 0 0, .int .i64 4]) ∧ Below w.heap.size w w' := by
  have HO := Lib.hid (open_bad (cap := cap) hb hg)
  clear hb hg
  go_enter Try.func14, Try.ntmps14
  go_wp2_with (first | (go_at_call 16; refine HO.out.mono ?_; rintro e w' ⟨cs, rfl, hbel, h8, h1⟩; have HB := Lib.hid hbel; have HS := Lib.hid (size58 cs h8); have HS0 : Hid (head0.size = cs.size) := Lib.hid h8.symm; have H1 := Lib.hid h1; clear hbel h8 h1) | (refine wpList_store_row rfl 44 (.tmp 6) _ rfl w'.heap.size cs rfl rfl 44 _ (cells_new w' 44 head0) HS.out HS0.out H1.out ?_))
  go_ret2
  exact ⟨rfl, below_head HB.out HB.out.size _⟩
theorem Remove_bad {a : Option Addr} {cap : Nat} {zs : List Nat} (i : Int) {w : World} (hb : BytesAt w a zs) (hg : ¬ Good zs) : Calls Try.prog 8 #[.slice a zs.length cap, .int .i64 i] w fun e w' => e = .returned (.tuple #[.slice none 0 0, .int .i64 4]) ∧ Below w.heap.size w w' := by
  have HO := Lib.hid (open_bad (cap := cap) hb hg)
  clear hb hg
  go_enter Try.func8, Try.ntmps8
  go_wp2_with (first | (go_at_call 16; refine HO.out.mono ?_; rintro e w' ⟨cs, rfl, hbel, h8, h1⟩; have HB := Lib.hid hbel; have HS := Lib.hid (size58 cs h8); have HS0 : Hid (head0.size = cs.size) := Lib.hid h8.symm; have H1 := Lib.hid h1; clear hbel h8 h1) | (refine wpList_store_row rfl 44 (.tmp 6) _ rfl w'.heap.size cs rfl rfl 44 _ (cells_new w' 44 head0) HS.out HS0.out H1.out ?_))
  go_ret2
  exact ⟨rfl, below_head HB.out HB.out.size _⟩
theorem Insert_bad {a : Option Addr} {cap : Nat} {zs : List Nat} (i : Int) (c : Value) {w : World} (hb : BytesAt w a zs) (hg : ¬ Good zs) : Calls Try.prog 7 #[.slice a zs.length cap, .int .i64 i, c] w fun e w' => e = .returned (.tuple #[.slice none 0 0, .int .i64 4]) ∧ Below w.heap.size w w' := by
  have HO := Lib.hid (open_bad (cap := cap) hb hg)
  clear hb hg
  go_enter Try.func7, Try.ntmps7
  go_wp2_with (first | (go_at_call 16; refine HO.out.mono ?_; rintro e w' ⟨cs, rfl, hbel, h8, h1⟩; have HB := Lib.hid hbel; have HS := Lib.hid (size58 cs h8); have HS0 : Hid (head0.size = cs.size) := Lib.hid h8.symm; have H1 := Lib.hid h1; clear hbel h8 h1) | (refine wpList_store_row rfl 44 (.tmp 8) _ rfl w'.heap.size cs rfl rfl 44 _ (cells_new w' 44 head0) HS.out HS0.out H1.out ?_))
  go_ret2
  exact ⟨rfl, below_head HB.out HB.out.size _⟩
end Go.Proofs.Ytaadeoobmclpcaa

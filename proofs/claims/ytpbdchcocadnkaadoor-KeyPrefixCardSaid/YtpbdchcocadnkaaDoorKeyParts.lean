/- A text's key read back by Parts, by Back: contracts. -/
import Derived.Test.YtpbdchcocadnkaaDoorKeyAll
namespace Go.Proofs.YtpbdchcocadnkaaDoor
open Go.ChangeShapes Go.WideShapes Go.ChangeAt Go.RowKit

def zeroVal : Value := .agg #[.int .i64 0, .int .u64 0, .slice none 0 0, .slice none 0 0, .slice none 0 0]
theorem infoV : (Tryd.prog.info? 35).map (fun i => (i.zero, i.size, i.bytes)) = some (some zeroVal, 5, 88) := by kernel_rfl
theorem rowyV : Rowy Tryd.prog 32 35 (info_parts infoV).choose zeroVal 5 88 := by
  obtain ⟨hi, hz0, hz1, hz2⟩ := (info_parts infoV).choose_spec
  exact ⟨Tryd.underlying32, hi, hz0, hz1, hz2, rfl⟩
theorem slc_lit5 (V : World) (v : Value) (hv : v.oneCell' = true) : Slc (V.alloc (.cells #[.int .i64 5, .int .u64 0, v, .slice none 0 0, .slice none 0 0] 35)) (some V.heap.size) 5 (.slice (some ⟨V.heap.size, 0, none⟩) 1 1) 1 [.int .i64 5, .int .u64 0, v, .slice none 0 0, .slice none 0 0] := by
  refine ⟨rfl, fun u hu => ?_, .inr ⟨V.heap.size, 0, 1, rfl, rfl, by simp, Nat.le_refl _, by unfold maxLen; decide, fun j u hu => ?_, fun j hj => ?_⟩⟩
  · simp only [List.mem_cons, List.mem_nil_iff, or_false] at hu
    rcases hu with rfl | rfl | rfl | rfl | rfl
    · rfl
    · rfl
    · exact hv
    · rfl
    · rfl
  · rw [Nat.zero_add, World.cell?_alloc_mark]
    simpa using hu
  · refine ⟨?_, frozen_of_row _ _ _ _ _ (heap_alloc_new V _)⟩
    rw [Nat.zero_add, World.cell?_alloc_mark, Array.getElem?_eq_getElem (by simpa using hj)]
    rfl
theorem one_of_slc {w : World} {bo : Option Nat} {a : Option Addr} {c ab ao ac : Nat} (h : Slc w bo 5 (.slice a 1 c) 1 [.int .i64 5, .int .u64 0, .slice (some ⟨ab, ao, none⟩) 1 ac, .slice none 0 0, .slice none 0 0]) (hx : w.cell? ⟨ab, ao, none⟩ = some (.int .u8 97)) (ha : 1 ≤ ac) : ∃ lb lo, a = some ⟨lb, lo, none⟩ ∧ OneText w lb lo ab ao ac := by
  obtain ⟨_, _, h3⟩ := h
  rcases h3 with ⟨_, e, _⟩ | ⟨b, off, cap, e1, e2, e3, e4, e5, e6, e7⟩
  · cases e
  · cases e2
    exact ⟨b, off, rfl, e6 0 _ rfl, e6 1 _ rfl, e6 2 _ rfl, e6 3 _ rfl, e6 4 _ rfl, hx, ha⟩
set_option maxHeartbeats 1000000 in
set_option maxRecDepth 20000 in
theorem equal_key {w : World} {a b : Option Addr} {c d : Nat} (ha : BytesAt w a key97) (hb : BytesAt w b key97) :
    Calls Tryd.prog 33 #[.slice a 4 c, .slice b 4 d] w fun e w' => e = .returned (.bool true) ∧ w = w' := by
  have k1 := conv_any ha (k := 4) rfl c
  have k2 := conv_any hb (k := 4) rfl d
  obtain ⟨s, hs⟩ : ∃ s, s = str key97 := ⟨_, rfl⟩
  rw [← hs] at k1 k2
  clear hs ha hb
  go_enter Tryd.func33, Tryd.ntmps33
  go_wp2
  go_ret
  first | exact ⟨rfl, rfl⟩ | (simp)
set_option maxHeartbeats 2000000 in
set_option maxRecDepth 20000 in
theorem parts_a {w : World} {b off cap fb fo fc : Nat} (hb : BytesAt w (some ⟨b, off, none⟩) key97) (hf : w.cell? ⟨fb, fo, none⟩ = some (.bool false)) :
    Calls Tryd.prog 21 #[.slice (some ⟨b, off, none⟩) 4 cap, .slice (some ⟨fb, fo, none⟩) 1 fc] w fun e w' => ∃ lb lo lc ab ao ac, e = .returned (.tuple #[.slice (some ⟨lb, lo, none⟩) 1 lc, .int .i64 0]) ∧ OneText w' lb lo ab ao ac ∧ Below w.heap.size w w' := by
  have HR := Lib.hid rowyV
  have HF : Hid (∀ V, Below w.heap.size w V → V.cell? ⟨fb, fo, none⟩ = some (.bool false)) := Lib.hid (fun V hV => (hV.cell (World.block_lt_of_cell? w _ hf)).trans hf)
  have HY : Hid (∀ V, Below w.heap.size w V → BytesAt V (some ⟨b, off, none⟩) key97) := Lib.hid (fun V hV => bytes_below hb hV)
  have hbw : b < w.heap.size := World.block_lt_of_cell? w _ (four_of hb).1
  generalize hQ : (fun (e : Ending) (w' : World) => ∃ lb lo lc ab ao ac, e = .returned (.tuple #[.slice (some ⟨lb, lo, none⟩) 1 lc, .int .i64 0]) ∧ OneText w' lb lo ab ao ac ∧ Below w.heap.size w w') = Q
  have HQ := Lib.hid hQ
  clear hQ
  go_enter Tryd.func21, Tryd.ntmps21
  go_wp2
  have HB1 : Hid (Below w.heap.size w (w.alloc (.cells #[.slice (some ⟨b, off, none⟩) 4 cap, .int .i64 0, .bool false, .bool false] 58))) := Lib.hid (below_alloc _ _)
  have HD1 : Hid (Rd (w.alloc (.cells #[.slice (some ⟨b, off, none⟩) 4 cap, .int .i64 0, .bool false, .bool false] 58)) w.heap.size b off cap 0) := Lib.hid (cells_new _ _ _)
  have hfl1 := HF.out _ HB1.out
  have hp1 : w.heap.size < (w.alloc (.cells #[.slice (some ⟨b, off, none⟩) 4 cap, .int .i64 0, .bool false, .bool false] 58)).heap.size := by rw [size_alloc]; omega
  generalize w.alloc (.cells #[.slice (some ⟨b, off, none⟩) 4 cap, .int .i64 0, .bool false, .bool false] 58) = w1 at HB1 HD1 hfl1 hp1 ⊢
  obtain ⟨r0, r1, r2, r3, rz, rt⟩ := rds_of HD1.out
  clear hb hf
  refine wp_loop_rounds 2 ?_
  rw [rounds_succ]
  go_wp2_with fail
  have HB2 : Hid (Below w.heap.size w (w1.setCell ⟨w.heap.size, 2, none⟩ (.bool false))) := Lib.hid (HB1.out.setCell (Nat.le_refl _) _)
  have HD2 : Hid (Rd (w1.setCell ⟨w.heap.size, 2, none⟩ (.bool false)) w.heap.size b off cap 0) := Lib.hid (cells_setCell (o := 2) HD1.out)
  clear r0 r1 r2 r3 rz rt hfl1
  have hp2 : w.heap.size < (w1.setCell ⟨w.heap.size, 2, none⟩ (.bool false)).heap.size := by simpa using hp1
  generalize w1.setCell ⟨w.heap.size, 2, none⟩ (.bool false) = w2 at HB2 HD2 hp2 ⊢
  refine (rvalue_any HD2.out (four_of (HY.out _ HB2.out)) (by omega)).mono ?_
  rintro e w3 ⟨a3, c3, rfl, ho3, hr3⟩
  obtain ⟨ab, ao, rfl, hax, -⟩ := byte_at (own_bytes ho3) (n := 1) rfl 0 (by decide)
  have hc3 := own_cap ho3
  have HR3 := Lib.hid hr3
  have HB3 : Hid (Below w.heap.size w w3) := Lib.hid (Turned.to_below HB2.out hr3.2.2 (fun k e => by omega) HB2.out.size)
  have HAX : Hid (w3.cell? ⟨ab, ao, none⟩ = some (.int .u8 97)) := Lib.hid hax
  clear ho3 hr3 hax
  have HL := Lib.hid (slc_lit5 w3 (.slice (some ⟨ab, ao, none⟩) 1 c3) rfl)
  go_wp2_with (at_builtin; refine wpList_slc HR.out rfl (.tmp 35) (.tmp 38) 32 rfl rfl rfl (slc_nil _ 5) (slc_src Tryd.underlying32 HL.out) (rfl : 0 + 1 = 1) (by unfold maxLen; decide) (by decide) ?_; intro a4 c4 b4 w4 h1 h2 h3; have hb4 : Below w3.heap.size w3 w4 := (below_alloc w3 _).trans ((h2.mono (fun k e => by cases e)).none_below.mono (below_alloc w3 _).size); obtain ⟨lb, lo, rfl, hone⟩ := one_of_slc h1 ((hb4.cell (World.block_lt_of_cell? w3 _ HAX.out)).trans HAX.out) hc3; have HB4 := Lib.hid (HB3.out.trans (hb4.mono HB3.out.size)); have HD4 : Hid (Rd w4 w.heap.size b off cap 4) := Lib.hid (cells_below HR3.out.1 hb4); have HON := Lib.hid hone; clear h1 h2 h3 hb4 hone)
  rw [rounds_succ]
  obtain ⟨r0, r1, r2, r3, rz, rt⟩ := rds_of HD4.out
  rw [show ((4 : Nat) : Int) = 4 from rfl] at r1
  go_wp2_with fail
  refine (all_a HON.out (HF.out _ HB4.out)).mono ?_
  rintro e w5 ⟨a5, c5, rfl, ho5, hb5⟩
  have HB5 := Lib.hid (HB4.out.trans (hb5.mono HB4.out.size))
  have HON5 := Lib.hid (one_below HON.out hb5)
  have HEQ := Lib.hid (equal_key (c := c5) (d := cap) (own_bytes ho5) (HY.out _ HB5.out))
  clear ho5 hb5 r0 r1 r2 r3 rz rt
  go_wp2_with (go_at_call 33; (with_reducible refine HEQ.out.mono ?_); rintro e w' ⟨rfl, rfl⟩)
  rw [← HQ.out]
  exact ⟨lb, lo, c4, ab, ao, c3, rfl, HON5.out, HB5.out⟩
end Go.Proofs.YtpbdchcocadnkaaDoor

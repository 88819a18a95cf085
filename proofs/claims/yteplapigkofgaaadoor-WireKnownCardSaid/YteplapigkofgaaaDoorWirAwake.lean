/- Layer 19 is awake; frames told one by one: the walks. -/
import Derived.Test.YteplapigkofgaaaDoorWirGet
namespace Go.Proofs.YteplapigkofgaaaDoor
open Go.ChangeShapes Go.WideShapes Go.ChangeAt Go.RowKit

set_option maxHeartbeats 1000000 in
set_option maxRecDepth 20000 in
theorem same_nil (w : World) : Calls Tryd.prog 20 #[.slice none 0 0, .slice none 0 0] w fun e w' => e = .returned (.bool true) ∧ Below w.heap.size w w' := by
  have k0 : ∀ V : World, (convert 22 9 (.slice none 0 0)).run Tryd.prog V = .ok (.string (str [])) V := fun V => conv_any (bytes_empty V) rfl 0
  have HB0 : Hid (Below w.heap.size w w) := Lib.hid (Below.refl _ _)
  go_enter Tryd.func20, Tryd.ntmps20
  go_wp2
  refine wp_loop_rounds 1 ?_
  rw [rounds_succ]
  go_wp2
  refine wp_loop_rounds 1 ?_
  rw [rounds_succ]
  go_wp2
  go_ret
  exact ⟨rfl, below_alloc' (below_alloc _ _) _⟩
set_option maxHeartbeats 1000000 in
set_option maxRecDepth 20000 in
theorem same_reply (w : World) : Calls Tryd.prog 13 #[.agg #[.int .i64 0, .int .i64 0, .slice none 0 0, .int .i64 0], .agg #[.int .i64 0, .int .i64 0, .slice none 0 0, .int .i64 0]] w fun e w' => e = .returned (.bool true) ∧ Below w.heap.size w w' := by
  have HL : Hid (∀ V, Calls Tryd.prog 20 #[.slice none 0 0, .slice none 0 0] V fun e w' => e = .returned (.bool true) ∧ Below V.heap.size V w') := Lib.hid same_nil
  have HB : Hid (∀ (V : World) (o p : Obj) (V' : World), Below ((V.alloc o).alloc p).heap.size ((V.alloc o).alloc p) V' → Below V.heap.size V V') := Lib.hid (fun V o p V' h => (below_alloc' (below_alloc V o) p).trans (h.mono (below_alloc' (below_alloc V o) p).size))
  go_enter Tryd.func13, Tryd.ntmps13
  go_wp2_with (go_at_call 20; (with_reducible refine (HL.out _).mono ?_); rintro e w2 ⟨rfl, hb2⟩; have HB2 := Lib.hid (HB.out _ _ _ _ hb2); clear hb2)
  go_ret
  exact ⟨rfl, HB2.out⟩
set_option maxHeartbeats 1000000 in
set_option maxRecDepth 20000 in
theorem awake_any (w : World) (hT : TabAt w) : Calls Tryd.prog 6 #[] w fun e w' => e = .returned (.bool true) ∧ Below w.heap.size w w' := by
  have HP := Lib.hid (put_empty w hT)
  have HT := Lib.hid hT
  have HR : Hid (∀ V, Calls Tryd.prog 13 #[.agg #[.int .i64 0, .int .i64 0, .slice none 0 0, .int .i64 0], .agg #[.int .i64 0, .int .i64 0, .slice none 0 0, .int .i64 0]] V fun e w' => e = .returned (.bool true) ∧ Below V.heap.size V w') := Lib.hid same_reply
  clear hT
  go_enter Tryd.func6, Tryd.ntmps6
  go_wp2_with fail
  refine HP.out.mono ?_
  rintro e w1 ⟨a1, c1, rfl, ho1, hb1⟩
  have hy1 := own_bytes ho1
  have hc1 : 18 ≤ c1 := by
    obtain ⟨_, _, bo, hs, _⟩ := ho1
    obtain ⟨ao, cap, e, h, _⟩ := slc_form hs
    cases e
    exact h
  obtain ⟨b, off, rfl, -⟩ := byte_at hy1 frame0_len 0 (by decide)
  have HG : Hid (Calls Tryd.prog 7 #[.slice (some ⟨b, off, none⟩) 18 c1] w1 (Got w1 18 0)) := Lib.hid (get_empty hy1 hc1 (tab_below HT.out hb1))
  have HY1 := Lib.hid hy1
  have HB1 := Lib.hid hb1
  clear ho1 hb1 hy1
  go_wp2_with fail
  refine HG.out.mono ?_
  rintro e w2 ⟨rfl, hb2⟩
  have hy2 : BytesAt (w2.alloc (.cells #[.int .i64 0, .int .i64 0, .slice none 0 0, .int .i64 0] 28)) (some ⟨b, off, none⟩) frame0 := bytes_below (bytes_below HY1.out hb2) (below_alloc _ _)
  have f0 : (w2.alloc (.cells #[.int .i64 0, .int .i64 0, .slice none 0 0, .int .i64 0] 28)).cell? ⟨b, off, none⟩ = some (.int .u8 77) := (cell_at hy2 frame0_len 0 (by decide)).1
  have f2 : (w2.alloc (.cells #[.int .i64 0, .int .i64 0, .slice none 0 0, .int .i64 0] 28)).cell? ⟨b, off + 2, none⟩ = some (.int .u8 10) := (cell_at hy2 frame0_len 2 (by decide)).1
  have HB2 : Hid (Below w.heap.size w (w2.alloc (.cells #[.int .i64 0, .int .i64 0, .slice none 0 0, .int .i64 0] 28))) := Lib.hid (below_alloc' (HB1.out.trans (hb2.mono HB1.out.size)) _)
  clear hy2 hb2
  go_wp2_with (go_at_call 13; (with_reducible refine (HR.out _).mono ?_); rintro e w3 ⟨rfl, hb3⟩; have HB3 := Lib.hid (HB2.out.trans (hb3.mono HB2.out.size)); clear hb3)
  go_ret
  exact ⟨rfl, HB3.out⟩
set_option maxHeartbeats 1000000 in
set_option maxRecDepth 20000 in
theorem splits_law {w : World} {a : Option Addr} {cap n : Nat} {zs : List Nat} (hb : BytesAt w a zs) (hl : zs.length = n) (hcap : n ≤ cap) (hT : TabAt w) :
    Calls Tryd.prog 4 #[.slice a n cap] w fun e w' => e = .returned (.bool true) ∧ Below w.heap.size w w' := by
  obtain ⟨x, y, z, hS⟩ := splits_all zs.length zs 0 (Nat.le_refl _)
  have H1 := Lib.hid (split_any hb hl hcap hT hS)
  have H2 : Hid (∀ V, Below w.heap.size w V → Calls Tryd.prog 9 #[.slice a n cap] V fun e w' => e = .returned (.tuple #[.int .i64 (x : Int), .int .i64 (y : Int), .int .i64 (z : Int)]) ∧ Below V.heap.size V w') := Lib.hid (fun V hV => refsplit_any (bytes_below hb hV) hl hcap hS)
  have H3 : Hid (∀ V, Below w.heap.size w V → Calls Tryd.prog 6 #[] V fun e w' => e = .returned (.bool true) ∧ Below V.heap.size V w') := Lib.hid (fun V hV => awake_any V (tab_below hT hV))
  clear hb hl hcap hT hS
  go_enter Tryd.func4, Tryd.ntmps4
  go_wp2_with (first
    | (go_at_call 6; (with_reducible refine (H3.out _ HB2.out).mono ?_); rintro e w3 ⟨rfl, hb3⟩; have HB3 := Lib.hid (HB2.out.trans (hb3.mono HB2.out.size)); clear hb3)
    | (go_at_call 9; (with_reducible refine (H2.out _ HB1.out).mono ?_); rintro e w2 ⟨rfl, hb2⟩; have HB2 := Lib.hid (HB1.out.trans (hb2.mono HB1.out.size)); clear hb2)
    | (go_at_call 8; (with_reducible refine H1.out.mono ?_); rintro e w1 ⟨rfl, hb1⟩; have HB1 := Lib.hid hb1; clear hb1))
  go_ret
  exact ⟨rfl, HB3.out⟩
end Go.Proofs.YteplapigkofgaaaDoor

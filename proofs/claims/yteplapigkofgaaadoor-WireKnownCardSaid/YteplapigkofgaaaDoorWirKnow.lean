/- Chapter 19's examples: the walk. -/
import Derived.Test.YteplapigkofgaaaDoorWirAwake
namespace Go.Proofs.YteplapigkofgaaaDoor
open Go.ChangeShapes Go.WideShapes Go.ChangeAt Go.RowKit

def all37 : List Nat := [] ++ frame0 ++ frame0 ++ [77]
theorem all37_len : all37.length = 37 := by decide +kernel
theorem splits37 : Splits all37 0 2 1 17 := by
  have e1 : headOf all37 = (18, 0) := by decide +kernel
  have d1 : all37.drop 18 = frame0 ++ [77] := by decide +kernel
  have e2 : headOf (frame0 ++ [77]) = (18, 0) := by decide +kernel
  have d2 : (frame0 ++ [77]).drop 18 = [77] := by decide +kernel
  have e3 : headOf [77] = (0, 17) := by decide +kernel
  have h3 : Splits [77] 2 2 1 17 := by
    have h := Splits.stop [77] 2 (by decide) (by rw [e3]; decide)
    rw [e3] at h
    exact h
  have h2 : Splits (frame0 ++ [77]) 1 2 1 17 := .more _ _ _ _ _ (by rw [List.length_append, frame0_len]; decide) (by rw [e2]) (by rw [e2, d2]; exact h3)
  exact .more _ _ _ _ _ (by rw [all37_len]; decide) (by rw [e1]) (by rw [e1, d1]; exact h2)
theorem head5 : headOf (frame0.take 5) = (0, 17) := by decide +kernel
theorem head2 : headOf [77, 1] = (0, 4) := by decide +kernel
theorem head4 : headOf [77, 68, 255, 255] = (0, 2) := by decide +kernel
theorem frame0_byte : ∀ c ∈ frame0, c < 256 := by decide +kernel
theorem own_cap {W w : World} {a : Option Addr} {n c : Nat} {l : List Nat} (h : Own W w a n c l) : n ≤ c := by
  obtain ⟨_, _, bo, hs, _⟩ := h
  obtain ⟨ao, cap, e, h, _⟩ := slc_form hs
  cases e
  exact h
theorem slice_five (V : World) (b off c : Nat) (h : 5 ≤ c) : (Instr.slice 22 (.slice (some ⟨b, off, none⟩) 18 c) none (some (.int .i64 5)) none).run Tryd.prog V = .ok (.slice (some ⟨b, off, none⟩) 5 c) V := by
  have h' : (5 : Int) ≤ c := by omega
  simp [go_sem, Tryd.underlying22, h']
theorem all37_is : [] ++ frame0 ++ frame0 ++ [77] = all37 := rfl
theorem take5_len : (frame0.take 5).length = 5 := by decide +kernel
attribute [local irreducible] frame0 all37 headOf
set_option maxHeartbeats 2000000 in
set_option maxRecDepth 20000 in
theorem known_law (w : World) (hT : TabAt w) : Calls Tryd.prog 3 #[] w fun e w' => e = .returned (.bool true) ∧ Below w.heap.size w w' := by
  have HP := Lib.hid (put_empty w hT)
  have HT := Lib.hid hT
  have HR := Lib.hid rowyU
  have HMX : Hid (∀ k, k ≤ 1048600 → k ≤ maxLen) := Lib.hid (fun k h => by unfold maxLen; omega)
  have HFL := Lib.hid frame0_len
  have HFB := Lib.hid frame0_byte
  generalize hQ : (fun (e : Ending) (w' : World) => e = .returned (.bool true) ∧ Below w.heap.size w w') = Q
  have HQ := Lib.hid hQ
  clear hT hQ
  go_enter Tryd.func3, Tryd.ntmps3
  go_wp2_with fail
  refine HP.out.mono ?_
  rintro e w1 ⟨a1, c1, rfl, ho1, hb1⟩
  have hy1 := own_bytes ho1
  have hc1 := own_cap ho1
  have hc5 : 5 ≤ c1 := by omega
  obtain ⟨b, off, rfl, -⟩ := byte_at hy1 frame0_len 0 (by decide)
  have HY1 := Lib.hid hy1
  have HB1 := Lib.hid hb1
  have HT1 := Lib.hid (tab_below HT.out hb1)
  have HA : Hid (∀ V, Below w1.heap.size w1 V → Calls Tryd.prog 6 #[] V fun e w' => e = .returned (.bool true) ∧ Below V.heap.size V w') := Lib.hid (fun V hV => awake_any V (tab_below HT1.out hV))
  have HG5 : Hid (∀ V, Below w1.heap.size w1 V → Calls Tryd.prog 7 #[.slice (some ⟨b, off, none⟩) 5 c1] V (Got V 0 17)) := Lib.hid (fun V hV => get_bad (zs := frame0.take 5) (bytes_prefix (m := frame0.drop 5) (by rw [List.take_append_drop]; exact bytes_below HY1.out hV)) take5_len hc5 (tab_below HT1.out hV) head5 (by decide))
  have HG2 : Hid (∀ V, Below w1.heap.size w1 V → Calls Tryd.prog 7 #[.slice (some ⟨V.heap.size + 1, 0, none⟩) 2 2] ((V.alloc (.cells #[.int .i64 0, .int .i64 0, .slice none 0 0, .int .i64 0] 28)).alloc (.cells #[.int .u8 77, .int .u8 1] 5)) (Got ((V.alloc (.cells #[.int .i64 0, .int .i64 0, .slice none 0 0, .int .i64 0] 28)).alloc (.cells #[.int .u8 77, .int .u8 1] 5)) 0 4)) := Lib.hid (fun V hV => by
    have hy := bytes_alloc (V.alloc (.cells #[.int .i64 0, .int .i64 0, .slice none 0 0, .int .i64 0] 28)) [77, 1] (by decide) (by show 2 ≤ maxLen; unfold maxLen; decide) (0, 0)
    rw [size_alloc] at hy
    exact get_bad (zs := [77, 1]) hy rfl (Nat.le_refl _) (tab_below (tab_below (tab_below HT1.out hV) (below_alloc _ _)) (below_alloc _ _)) head2 (by decide))
  have HG4 : Hid (∀ V, Below w1.heap.size w1 V → Calls Tryd.prog 7 #[.slice (some ⟨V.heap.size + 1, 0, none⟩) 4 4] ((V.alloc (.cells #[.int .i64 0, .int .i64 0, .slice none 0 0, .int .i64 0] 28)).alloc (.cells #[.int .u8 77, .int .u8 68, .int .u8 255, .int .u8 255] 5)) (Got ((V.alloc (.cells #[.int .i64 0, .int .i64 0, .slice none 0 0, .int .i64 0] 28)).alloc (.cells #[.int .u8 77, .int .u8 68, .int .u8 255, .int .u8 255] 5)) 0 2)) := Lib.hid (fun V hV => by
    have hy := bytes_alloc (V.alloc (.cells #[.int .i64 0, .int .i64 0, .slice none 0 0, .int .i64 0] 28)) [77, 68, 255, 255] (by decide) (by show 4 ≤ maxLen; unfold maxLen; decide) (0, 0)
    rw [size_alloc] at hy
    exact get_bad (zs := [77, 68, 255, 255]) hy rfl (Nat.le_refl _) (tab_below (tab_below (tab_below HT1.out hV) (below_alloc _ _)) (below_alloc _ _)) head4 (by decide))
  have HSP : Hid (∀ V a c, Below w1.heap.size w1 V → BytesAt V a all37 → 37 ≤ c → Calls Tryd.prog 8 #[.slice a 37 c] V fun e w' => e = .returned (.tuple #[.int .i64 2, .int .i64 1, .int .i64 17]) ∧ Below V.heap.size V w') := Lib.hid (fun V a c hV hy hc => split_any hy all37_len hc (tab_below HT1.out hV) splits37)
  clear ho1 hb1 hy1
  go_wp2_with fail
  refine (HA.out w1 (Below.refl _ _)).mono ?_
  rintro e w2 ⟨rfl, hb2⟩
  have HB2 := Lib.hid hb2
  have k5 := slice_five w2 b off c1 hc5
  clear hb2
  go_wp2_with fail
  refine (HG5.out w2 HB2.out).mono ?_
  rintro e w3 ⟨rfl, hb3⟩
  have HB3 : Hid (Below w1.heap.size w1 w3) := Lib.hid (HB2.out.trans (hb3.mono HB2.out.size))
  clear hb3 k5
  go_wp2_with fail
  have HB3a : Hid (Below w1.heap.size w1 ((w3.alloc (.cells #[.int .i64 0, .int .i64 0, .slice none 0 0, .int .i64 0] 28)).alloc (.cells #[.int .u8 77, .int .u8 1] 5))) := Lib.hid (below_alloc' (below_alloc' HB3.out _) _)
  refine (HG2.out w3 HB3.out).mono ?_
  rintro e w4 ⟨rfl, hb4⟩
  have HB4 : Hid (Below w1.heap.size w1 w4) := Lib.hid (HB3a.out.trans (hb4.mono HB3a.out.size))
  clear hb4
  go_wp2_with fail
  have HB4a : Hid (Below w1.heap.size w1 ((w4.alloc (.cells #[.int .i64 0, .int .i64 0, .slice none 0 0, .int .i64 0] 28)).alloc (.cells #[.int .u8 77, .int .u8 68, .int .u8 255, .int .u8 255] 5))) := Lib.hid (below_alloc' (below_alloc' HB4.out _) _)
  refine (HG4.out w4 HB4.out).mono ?_
  rintro e w5 ⟨rfl, hb5⟩
  have HB5 : Hid (Below w1.heap.size w1 w5) := Lib.hid (HB4a.out.trans (hb5.mono HB4a.out.size))
  have HS5 : Hid (Slc ((w5.alloc (.cells #[.int .i64 0, .int .i64 0, .slice none 0 0, .int .i64 0] 28)).alloc (.cells #[] 5)) (some (w5.heap.size + 1)) 1 (.slice (some ⟨w5.heap.size + 1, 0, none⟩) 0 0) 0 (u8s [])) := Lib.hid (by
    have h := slc_fresh (w5.alloc (.cells #[.int .i64 0, .int .i64 0, .slice none 0 0, .int .i64 0] 28)) 5 1
    rw [size_alloc] at h
    exact h)
  have HB5a : Hid (Below w1.heap.size w1 ((w5.alloc (.cells #[.int .i64 0, .int .i64 0, .slice none 0 0, .int .i64 0] 28)).alloc (.cells #[] 5))) := Lib.hid (below_alloc' (below_alloc' HB5.out _) _)
  have HY5 : Hid (∀ V, Below w1.heap.size w1 V → BytesAt V (some ⟨b, off, none⟩) frame0) := Lib.hid (fun V hV => bytes_below HY1.out hV)
  have HN5 : Hid (∀ k, some (w5.heap.size + 1) = some k → w1.heap.size ≤ k) := Lib.hid (fun k e => by cases e; have := HB5.out.size; omega)
  clear hb5
  go_wp2_with (first
    | (go_at_call 8; (refine (HSP.out _ a8 c8 HB8.out (own_bytes HO8.out) (own_cap HO8.out)).mono ?_); rintro e w9 ⟨rfl, hb9⟩; have HB9 := Lib.hid (HB8.out.trans (hb9.mono HB8.out.size)); clear hb9)
    | (at_builtin; (refine wpList_slc HR.out rfl (.tmp 46) (.tmp 47) 22 rfl rfl rfl HS7.out (bytes_src Tryd.underlying22 (const_one w7 77 (by decide)) rfl) (rfl : 36 + 1 = 37) (HMX.out _ (by decide)) (by decide) ?_); intro a8 c8 b8 w8 h1 h2 h3; obtain ⟨ho8, hb8⟩ := own_more (n' := 37) (m := [77]) HO7.out.1 rfl HO7.out.2.1 (by decide) HB7a.out HO7.out.2.2.choose_spec.2 h1 h2 h3; have HO8 : Hid (Own w1 w8 a8 37 c8 all37) := Lib.hid (by rw [← all37_is]; exact ho8); have HB8 := Lib.hid hb8; clear h1 h2 h3 ho8 hb8)
    | (at_builtin; (refine wpList_slc HR.out rfl (.tmp 44) (.tmp 45) 22 rfl rfl rfl HO6.out.2.2.choose_spec.1 (bytes_src Tryd.underlying22 (HY5.out _ HB6.out) HFL.out) (rfl : 18 + 18 = 36) (HMX.out _ (by decide)) (by decide) ?_); intro a7 c7 b7 w7 h1 h2 h3; obtain ⟨ho7, hb7⟩ := own_more (n' := 36) (m := frame0) HO6.out.1 (by rw [HFL.out]) HO6.out.2.1 HFB.out HB6.out HO6.out.2.2.choose_spec.2 h1 h2 h3; have HO7 := Lib.hid ho7; have HB7 := Lib.hid hb7; have HB7a : Hid (Below w1.heap.size w1 (w7.alloc (.cells #[.int .u8 77] 5))) := Lib.hid (below_alloc' hb7 _); have HS7 := Lib.hid (slc_below HO7.out.2.2.choose_spec.1 (below_alloc w7 (.cells #[.int .u8 77] 5))); clear h1 h2 h3 ho7 hb7)
    | (at_builtin; (refine wpList_slc HR.out rfl (.tmp 42) (.tmp 43) 22 rfl rfl rfl HS5.out (bytes_src Tryd.underlying22 (HY5.out _ HB5a.out) HFL.out) (rfl : 0 + 18 = 18) (HMX.out _ (by decide)) (by decide) ?_); intro a6 c6 b6 w6 h1 h2 h3; obtain ⟨ho6, hb6⟩ := own_more (n := 0) (n' := 18) (l := []) (m := frame0) rfl (by rw [HFL.out]) (fun x hx => by cases hx) HFB.out HB5a.out HN5.out h1 h2 h3; have HO6 := Lib.hid ho6; have HB6 := Lib.hid hb6; clear h1 h2 h3 ho6 hb6))
  rw [← HQ.out]
  exact ⟨rfl, HB1.out.trans (HB9.out.mono HB1.out.size)⟩
end Go.Proofs.YteplapigkofgaaaDoor

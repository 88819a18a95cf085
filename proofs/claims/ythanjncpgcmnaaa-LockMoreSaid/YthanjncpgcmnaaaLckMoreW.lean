/- LockMore: the walk. -/
import Derived.Test.YthanjncpgcmnaaaLckMore
namespace Go.Proofs.Ythanjncpgcmnaaa
open Go.ChangeShapes Go.WideShapes Go.ChangeAt Go.RowKit

set_option maxRecDepth 100000 in
set_option maxHeartbeats 4000000 in
theorem more_walk (a b c : Int) (w : World) : Calls Try.prog 9 #[.int .i64 a, .int .i64 b, .int .i64 c] w fun e w' => e = .returned (.bool true) ∧ Below w.heap.size w w' := by
  have HA := Lib.hid awake_any
  have HT := Lib.hid tog_any
  have HJ := Lib.hid joi_any
  have ha := i64_and3 a; have hb := i64_and3 b; have hc := i64_and3 c
  have ka4 : (a % 4).toNat < 4 := by omega
  have kb4 : (b % 4).toNat < 4 := by omega
  have kc4 : (c % 4).toNat < 4 := by omega
  generalize (a % 4).toNat = ka at ha ka4
  generalize (b % 4).toNat = kb at hb kb4
  generalize (c % 4).toNat = kc at hc kc4
  obtain ⟨X, hX⟩ : ∃ X : Nat, X = 1 + ka := ⟨_, rfl⟩
  obtain ⟨Y, hY⟩ : ∃ Y : Nat, Y = 1 + kb := ⟨_, rfl⟩
  obtain ⟨Z, hZ⟩ : ∃ Z : Nat, Z = 1 + kc := ⟨_, rfl⟩
  have eX : (1 : Int) + (ka : Int) = (X : Int) := by omega
  have eY : (1 : Int) + (kb : Int) = (Y : Int) := by omega
  have eZ : (1 : Int) + (kc : Int) = (Z : Int) := by omega
  have HX : Hid (1 ≤ X ∧ X ≤ 4) := Lib.hid (by omega)
  have HY : Hid (1 ≤ Y ∧ Y ≤ 4) := Lib.hid (by omega)
  have HZ : Hid (1 ≤ Z ∧ Z ≤ 4) := Lib.hid (by omega)
  obtain ⟨A1, A2, A3, A4⟩ := joi_assoc HX.out HY.out HZ.out
  have hW := next_mode (next_mode HX.out.2 HY.out).2 HZ.out
  obtain ⟨V, hV⟩ : ∃ V, V = nextM X Y := ⟨_, rfl⟩
  obtain ⟨W, hWW⟩ : ∃ W, W = nextM V Z := ⟨_, rfl⟩
  rw [← hV, ← hWW] at A3 A4 hW
  have HV1 : Hid (1 ≤ V ∧ V ≤ 4) := Lib.hid (by rw [hV]; exact next_mode HX.out.2 HY.out)
  have HV := Lib.hid hV; have HWW := Lib.hid hWW; have HW := Lib.hid hW; have H3 := Lib.hid A3
  have E1 : Hid (joi (joi X Y) Z = (W : Int)) := Lib.hid A4.symm
  have E2 : Hid (joi X (joi Y Z) = (W : Int)) := Lib.hid (by rw [← A1]; exact A4.symm)
  have E3 : Hid (joi Y X = joi X Y) := Lib.hid A2.symm
  clear hX hY hZ A1 A2 A3 A4 hV hWW hW
  by_cases ht : tog W Y = true
  all_goals
    have HTT := Lib.hid ht
    clear ht
    go_enter Try.func9, Try.ntmps9
    go_wp2_with (first
      | (go_at_call 12; refine (HA.out _).mono ?_; rintro e w1 ⟨rfl, hb⟩; have B1 := Lib.hid hb; clear hb)
      | (go_at_call 11; refine (live_new w _ B1.out (fun _ => False) (fun _ h => h.elim)).mono ?_; rintro e w2 ⟨g, rfl, h2, -, -⟩; have L0 := Lib.hid h2; have M0 := Lib.hid mine_start; clear h2 B1)
      | (go_at_call 13; refine (ask_mine (m := X) L0.out M0.out (by decide) HX.out (by decide)).mono ?_; rintro e w3 ⟨S1', m1, rfl, h3, -⟩; have L1 := Lib.hid h3; have M1 : Hid (Mine S1' X) := Lib.hid m1; clear h3 m1 L0 M0)
      | (go_at_call 13; refine (ask_mine (m := Y) L1.out M1.out HX.out.2 HY.out (by decide)).mono ?_; rintro e w4 ⟨S2', m2, rfl, h4, -⟩; rw [← HV.out] at m2; have L2 := Lib.hid h4; have M2 := Lib.hid m2; clear h4 m2 L1 M1)
      | (go_at_call 13; refine (ask_mine (m := Z) L2.out M2.out HV1.out.2 HZ.out (by decide)).mono ?_; rintro e w5 ⟨S3', m3, rfl, h5, -⟩; rw [← HWW.out] at m3; have L3 := Lib.hid h5; have M3 := Lib.hid m3; clear h5 m3 L2 M2)
      | (go_at_call 13; refine (ask_mine (m := X) L3.out M3.out HW.out.2 HX.out (by decide)).mono ?_; rintro e w6 ⟨S4', m4, rfl, h6, -⟩; rw [H3.out] at m4; have L4 := Lib.hid h6; have M4 := Lib.hid m4; clear h6 m4 L3 M3)
      | (go_at_call 17; refine (held_mine L4.out M4.out HW.out (by decide)).mono ?_; rintro e w7 ⟨hb7, hoff, hcap, rfl, hcell, h7⟩; have L5 := Lib.hid h7; clear h7 L4)
      | (go_at_call 19; refine (HJ.out _ _ _).mono ?_; rintro e w' ⟨rfl, rfl⟩; first | rw [E1.out] | rw [E2.out] | rw [E3.out] | skip)
      | (go_at_call 13; refine (ask_other (m := Y) L5.out M4.out HW.out HY.out (by decide)).mono ?_; rintro e w8 ⟨rfl, h8⟩; (first | rw [if_pos HTT.out] | rw [if_neg HTT.out]); have B8 := Lib.hid h8; clear h8 L5)
      | (go_at_call 20; refine (HT.out _ _ _).mono ?_; rintro e w9 ⟨rfl, h9⟩; (first | rw [HTT.out] | rw [show tog W Y = false from by simpa using HTT.out]); have B9 := Lib.hid (B8.out.trans (h9.mono B8.out.size)); clear h9))
    go_ret
    exact ⟨rfl, B9.out⟩
end Go.Proofs.Ythanjncpgcmnaaa

/- SumNumbers where the number is too big: walks. -/
import Derived.Test.YtflepcoiidaekaaDoorSumNumA
namespace Go.Proofs.YtflepcoiidaekaaDoor
open Go.ChangeShapes Go.WideShapes Go.ChangeAt Go.RowKit

set_option maxHeartbeats 1000000 in
theorem num_big1 (a : Option Addr) (cap : Nat) (zs : List Nat) (q n : Nat) (w : World) (hb : BytesAt w a zs) (hT : TabAt w) (h1 : q + 1 ≤ zs.length) (hn : 256 ≤ n) :
    Calls Tryd.prog 4 #[.slice a zs.length cap, .int .i64 (q : Int), .int .i64 1, .int .u64 (n : Int)] w (True' w) := by
  have hm := hb.2.1
  have HP := Lib.hid (put_big a zs.length cap q 1 n w hm (.inl ⟨rfl, hn⟩) (by omega) (by omega))
  have HG := Lib.hid (get_yes a cap zs q 1 w hb (by omega) (by omega))
  have HA := Lib.hid (awake_any w hT)
  have HR : Hid (∀ w', Below w.heap.size w w' → Calls Tryd.prog 13 #[.slice a zs.length cap, .int .i64 (q : Int), .int .i64 (1 : Int)] w' fun e w2 => e = .returned (.int .u64 (num ((zs.drop q).take (1 : Int).toNat) : Int)) ∧ w' = w2) :=
    Lib.hid (fun w' h => refget_any a cap zs q 1 w' (bytes_below hb h) (by omega) h1)
  clear hT hb
  unfold maxLen at hm
  obtain ⟨x, hx⟩ : ∃ x, x = num ((zs.drop q).take (1 : Int).toNat) := ⟨_, rfl⟩
  rw [← hx] at HG HR
  clear hx
  have hd : decide (0 < (n : Int) / 256) = true := decide_eq_true (by omega)
  go_enter Tryd.func4, Tryd.ntmps4
  go_wp2_with (first | (go_at_call 9; refine HP.out.mono ?_; rintro e w' ⟨rfl, rfl⟩) | (go_at_call 12; refine HG.out.mono ?_; rintro e w' ⟨rfl, rfl⟩) | (go_at_call 10; refine HA.out.mono ?_; rintro e w1 ⟨rfl, hb⟩; have HB := Lib.hid hb; clear hb) | (go_at_call 13; refine (HR.out _ HB.out).mono ?_; rintro e w' ⟨rfl, rfl⟩))
  go_ret
  exact ⟨rfl, HB.out⟩

set_option maxHeartbeats 1000000 in
theorem num_big2 (a : Option Addr) (cap : Nat) (zs : List Nat) (q n : Nat) (w : World) (hb : BytesAt w a zs) (hT : TabAt w) (h1 : q + 2 ≤ zs.length) (hn : 65536 ≤ n) :
    Calls Tryd.prog 4 #[.slice a zs.length cap, .int .i64 (q : Int), .int .i64 2, .int .u64 (n : Int)] w (True' w) := by
  have hm := hb.2.1
  have HP := Lib.hid (put_big a zs.length cap q 2 n w hm (.inr (.inl ⟨rfl, hn⟩)) (by omega) (by omega))
  have HG := Lib.hid (get_yes a cap zs q 2 w hb (by omega) (by omega))
  have HA := Lib.hid (awake_any w hT)
  have HR : Hid (∀ w', Below w.heap.size w w' → Calls Tryd.prog 13 #[.slice a zs.length cap, .int .i64 (q : Int), .int .i64 (2 : Int)] w' fun e w2 => e = .returned (.int .u64 (num ((zs.drop q).take (2 : Int).toNat) : Int)) ∧ w' = w2) :=
    Lib.hid (fun w' h => refget_any a cap zs q 2 w' (bytes_below hb h) (by omega) h1)
  clear hT hb
  unfold maxLen at hm
  obtain ⟨x, hx⟩ : ∃ x, x = num ((zs.drop q).take (2 : Int).toNat) := ⟨_, rfl⟩
  rw [← hx] at HG HR
  clear hx
  have hd : decide (0 < (n : Int) / 65536) = true := decide_eq_true (by omega)
  go_enter Tryd.func4, Tryd.ntmps4
  go_wp2_with (first | (go_at_call 9; refine HP.out.mono ?_; rintro e w' ⟨rfl, rfl⟩) | (go_at_call 12; refine HG.out.mono ?_; rintro e w' ⟨rfl, rfl⟩) | (go_at_call 10; refine HA.out.mono ?_; rintro e w1 ⟨rfl, hb⟩; have HB := Lib.hid hb; clear hb) | (go_at_call 13; refine (HR.out _ HB.out).mono ?_; rintro e w' ⟨rfl, rfl⟩))
  go_ret
  exact ⟨rfl, HB.out⟩

set_option maxHeartbeats 1000000 in
theorem num_big4 (a : Option Addr) (cap : Nat) (zs : List Nat) (q n : Nat) (w : World) (hb : BytesAt w a zs) (hT : TabAt w) (h1 : q + 4 ≤ zs.length) (hn : 4294967296 ≤ n) :
    Calls Tryd.prog 4 #[.slice a zs.length cap, .int .i64 (q : Int), .int .i64 4, .int .u64 (n : Int)] w (True' w) := by
  have hm := hb.2.1
  have HP := Lib.hid (put_big a zs.length cap q 4 n w hm (.inr (.inr ⟨rfl, hn⟩)) (by omega) (by omega))
  have HG := Lib.hid (get_yes a cap zs q 4 w hb (by omega) (by omega))
  have HA := Lib.hid (awake_any w hT)
  have HR : Hid (∀ w', Below w.heap.size w w' → Calls Tryd.prog 13 #[.slice a zs.length cap, .int .i64 (q : Int), .int .i64 (4 : Int)] w' fun e w2 => e = .returned (.int .u64 (num ((zs.drop q).take (4 : Int).toNat) : Int)) ∧ w' = w2) :=
    Lib.hid (fun w' h => refget_any a cap zs q 4 w' (bytes_below hb h) (by omega) h1)
  clear hT hb
  unfold maxLen at hm
  obtain ⟨x, hx⟩ : ∃ x, x = num ((zs.drop q).take (4 : Int).toNat) := ⟨_, rfl⟩
  rw [← hx] at HG HR
  clear hx
  have hd : decide (0 < (n : Int) / 4294967296) = true := decide_eq_true (by omega)
  go_enter Tryd.func4, Tryd.ntmps4
  go_wp2_with (first | (go_at_call 9; refine HP.out.mono ?_; rintro e w' ⟨rfl, rfl⟩) | (go_at_call 12; refine HG.out.mono ?_; rintro e w' ⟨rfl, rfl⟩) | (go_at_call 10; refine HA.out.mono ?_; rintro e w1 ⟨rfl, hb⟩; have HB := Lib.hid hb; clear hb) | (go_at_call 13; refine (HR.out _ HB.out).mono ?_; rintro e w' ⟨rfl, rfl⟩))
  go_ret
  exact ⟨rfl, HB.out⟩
end Go.Proofs.YtflepcoiidaekaaDoor

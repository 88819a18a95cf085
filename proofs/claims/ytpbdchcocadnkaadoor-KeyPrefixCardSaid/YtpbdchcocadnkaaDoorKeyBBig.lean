/- A value of bytes that is too big: contracts of package val. -/
import Derived.Test.YtpbdchcocadnkaaDoorKeyBMea
namespace Go.Proofs.YtpbdchcocadnkaaDoor
open Go.ChangeShapes Go.WideShapes Go.ChangeAt Go.RowKit

set_option maxHeartbeats 1000000 in
set_option maxRecDepth 20000 in
theorem measure_big {w : World} {m xc : Nat} {x : Option Addr} (hm : m ≤ 140737488351232) (h : ¬ m ≤ 4093) :
    Calls Tryd.prog 23 #[.agg #[.int .i64 6, .int .u64 0, .slice x m xc, .slice none 0 0, .slice none 0 0]] w fun e w' => e = .returned (.tuple #[.int .i64 0, .int .i64 2]) ∧ Below w.heap.size w w' := by
  have hmf : ∀ (fn : Fn) (first cap : Array Value) (w : World), (Instr.makeFunc fn first cap).run Tryd.prog w = .ok (.func fn first cap) w := fun _ _ _ _ => rfl
  have HW : Hid (∀ V kb, Below w.heap.size w V → Look V kb 0 → Calls Tryd.prog 36 #[.pointer (some ⟨kb, 0, none⟩), .agg #[.int .i64 6, .int .u64 0, .slice x m xc, .slice none 0 0, .slice none 0 0], .int .i64 0] V fun e w' => e = .returned (.tuple #[]) ∧ Look w' kb (3 + m) ∧ Turned (fun k => k = kb) V w') := Lib.hid (fun V kb _ hk => walk_bytes (by omega) hk)
  generalize hQ : (fun (e : Ending) (w' : World) => e = .returned (.tuple #[.int .i64 0, .int .i64 2]) ∧ Below w.heap.size w w') = Q
  have HQ := Lib.hid hQ
  clear hQ
  go_enter_defers Tryd.func23, Tryd.ntmps23
  go_wp2_with fail
  have hsz : ∀ (V : World) (o : Obj), (V.alloc o).heap.size = V.heap.size + 1 := size_alloc
  have HBS : Hid (Below w.heap.size w ((((w.alloc (.cells #[.int .i64 6, .int .u64 0, .slice x m xc, .slice none 0 0, .slice none 0 0] 35)).alloc (.cells #[.int .i64 0] 3)).alloc (.cells #[.int .i64 0] 28)).alloc (.cells #[.bool false, .bool false, .int .i64 0] 63))) := Lib.hid (below_alloc' (below_alloc' (below_alloc' (below_alloc _ _) _) _) _)
  have HA : Hid (Cells ((((w.alloc (.cells #[.int .i64 6, .int .u64 0, .slice x m xc, .slice none 0 0, .slice none 0 0] 35)).alloc (.cells #[.int .i64 0] 3)).alloc (.cells #[.int .i64 0] 28)).alloc (.cells #[.bool false, .bool false, .int .i64 0] 63)) (w.heap.size + 1) 3 #[.int .i64 0]) := Lib.hid (by
    refine cells_alloc (cells_alloc ?_ _) _
    have h := cells_new (w.alloc (.cells #[.int .i64 6, .int .u64 0, .slice x m xc, .slice none 0 0, .slice none 0 0] 35)) 3 #[.int .i64 0]
    rwa [hsz] at h)
  have HE : Hid (Cells ((((w.alloc (.cells #[.int .i64 6, .int .u64 0, .slice x m xc, .slice none 0 0, .slice none 0 0] 35)).alloc (.cells #[.int .i64 0] 3)).alloc (.cells #[.int .i64 0] 28)).alloc (.cells #[.bool false, .bool false, .int .i64 0] 63)) (w.heap.size + 1 + 1) 28 #[.int .i64 0]) := Lib.hid (by
    refine cells_alloc ?_ _
    have h := cells_new ((w.alloc (.cells #[.int .i64 6, .int .u64 0, .slice x m xc, .slice none 0 0, .slice none 0 0] 35)).alloc (.cells #[.int .i64 0] 3)) 28 #[.int .i64 0]
    rwa [hsz, hsz] at h)
  have HK : Hid (Look ((((w.alloc (.cells #[.int .i64 6, .int .u64 0, .slice x m xc, .slice none 0 0, .slice none 0 0] 35)).alloc (.cells #[.int .i64 0] 3)).alloc (.cells #[.int .i64 0] 28)).alloc (.cells #[.bool false, .bool false, .int .i64 0] 63)) (w.heap.size + 1 + 1 + 1) 0) := Lib.hid (by
    have h := cells_new (((w.alloc (.cells #[.int .i64 6, .int .u64 0, .slice x m xc, .slice none 0 0, .slice none 0 0] 35)).alloc (.cells #[.int .i64 0] 3)).alloc (.cells #[.int .i64 0] 28)) 63 #[.bool false, .bool false, .int .i64 0]
    rwa [hsz, hsz, hsz] at h)
  clear hsz
  generalize (((w.alloc (.cells #[.int .i64 6, .int .u64 0, .slice x m xc, .slice none 0 0, .slice none 0 0] 35)).alloc (.cells #[.int .i64 0] 3)).alloc (.cells #[.int .i64 0] 28)).alloc (.cells #[.bool false, .bool false, .int .i64 0] 63) = w1 at HBS HA HE HK ⊢
  refine (HW.out w1 _ HBS.out HK.out).mono ?_
  rintro e w2 ⟨rfl, hk2, ht2⟩
  have hA2 := cells_turned HA.out ht2 (by omega)
  have hE2 := cells_turned HE.out ht2 (by omega)
  have HA2 := Lib.hid hA2
  have HE2 := Lib.hid hE2
  have HB2 : Hid (Below w.heap.size w w2) := Lib.hid (Turned.to_below HBS.out ht2 (fun k e => by omega) HBS.out.size)
  obtain ⟨a0, a1, a2, -⟩ := looks_of hk2
  rw [show ((3 + m : Nat) : Int) = 3 + (m : Int) by omega] at a2
  have hdec : decide (3 + (m : Int) ≤ 4096) = false := decide_eq_false (by omega)
  have s0 : w2.cell? ⟨w.heap.size + 1, 0, none⟩ = some (.int .i64 0) := by rw [cell_of_row w2 (w.heap.size + 1) 0 _ _ _ hA2]; rfl
  have s1 : w2.cell? ⟨w.heap.size + 1 + 1, 0, none⟩ = some (.int .i64 0) := by rw [cell_of_row w2 (w.heap.size + 1 + 1) 0 _ _ _ hE2]; rfl
  have f0 : w2.frozen? ⟨w.heap.size + 1, 0, none⟩ = false := frozen_of_row _ _ _ _ _ hA2
  have f1 : w2.frozen? ⟨w.heap.size + 1 + 1, 0, none⟩ = false := frozen_of_row _ _ _ _ _ hE2
  clear hA2 hE2 hk2 ht2
  go_wp2_with fail
  refine (vdemand_yes _ _).mono ?_
  rintro e w' ⟨rfl, rfl⟩
  go_wp2_with fail
  refine (vdemand_yes _ _).mono ?_
  rintro e w' ⟨rfl, rfl⟩
  go_wp2_with fail
  refine (vdemand_no _ _).mono ?_
  rintro e w3 ⟨rfl, hb3⟩
  have HA3 := Lib.hid (cells_below HA2.out hb3)
  have HE3 := Lib.hid (cells_below HE2.out hb3)
  have HB3 := Lib.hid (HB2.out.trans (hb3.mono HB2.out.size))
  refine leaves_cons (f := 34) (args := #[.pointer (some ⟨w.heap.size + 1, 0, none⟩), .pointer (some ⟨w.heap.size + 1 + 1, 0, none⟩)]) (by simp) (by simp [go_sem]) ?_
  refine (mcatch_panics w.heap.size 0 0 2 w3 [] HA3.out HE3.out).mono ?_
  rintro e u' w4 ⟨rfl, rfl, hA4, hE4, hT4⟩
  have HB4 : Below w.heap.size w w4 := Turned.to_below HB3.out hT4 (fun k e => by omega) HB3.out.size
  rw [← HQ.out]
  exact ⟨_, results_two rfl rfl rfl hA4 hE4, rfl, HB4⟩
set_option maxHeartbeats 1000000 in
set_option maxRecDepth 20000 in
theorem good_bytes {w : World} {m xc : Nat} {x : Option Addr} (hm : m ≤ 140737488351232) :
    Calls Tryd.prog 18 #[.agg #[.int .i64 6, .int .u64 0, .slice x m xc, .slice none 0 0, .slice none 0 0]] w fun e w' => e = .returned (.int .i64 (if m ≤ 4093 then 0 else 2)) ∧ Below w.heap.size w w' := by
  have HM : Hid (∀ V, Calls Tryd.prog 23 #[.agg #[.int .i64 6, .int .u64 0, .slice x m xc, .slice none 0 0, .slice none 0 0]] V fun e w' => ∃ k : Int, e = .returned (.tuple #[.int .i64 k, .int .i64 (if m ≤ 4093 then 0 else 2)]) ∧ Below V.heap.size V w') := Lib.hid (fun V => by
    by_cases h : m ≤ 4093
    · rw [if_pos h]
      exact (measure_bytes h).mono fun e w' hh => ⟨_, hh.1, hh.2⟩
    · rw [if_neg h]
      exact (measure_big hm h).mono fun e w' hh => ⟨_, hh.1, hh.2⟩)
  have HB : Hid (∀ o : Obj, Below w.heap.size w (w.alloc o)) := Lib.hid (fun o => below_alloc _ _)
  generalize (if m ≤ 4093 then (0 : Int) else 2) = z at HM ⊢
  go_enter Tryd.func18, Tryd.ntmps18
  go_wp2_with (go_at_call 23; (with_reducible refine (HM.out _).mono ?_); rintro e w2 ⟨k, rfl, hb2⟩; have HB2 := Lib.hid ((HB.out _).trans (hb2.mono (HB.out _).size)); clear hb2)
  go_ret
  exact ⟨rfl, HB2.out⟩
end Go.Proofs.YtpbdchcocadnkaaDoor

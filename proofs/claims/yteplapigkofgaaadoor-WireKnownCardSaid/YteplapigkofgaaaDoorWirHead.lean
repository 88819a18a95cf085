/- The frame at a row's beginning: contracts of frame and of the document's Head. -/
import Derived.Test.YteplapigkofgaaaDoorWirPut
namespace Go.Proofs.YteplapigkofgaaaDoor
open Go.ChangeShapes Go.WideShapes Go.ChangeAt Go.RowKit

theorem byte_at {w : World} {a : Option Addr} {zs : List Nat} {n : Nat} (hb : BytesAt w a zs) (hl : zs.length = n) (j : Nat) (hj : j < n) : ∃ b off, a = some ⟨b, off, none⟩ ∧ w.cell? ⟨b, off + j, none⟩ = some (.int .u8 (zs.getD j 0 : Int)) ∧ zs.getD j 0 < 256 := by
  obtain ⟨b, off, e, hc⟩ := hb.2.2 j (by omega)
  have hg : zs.getD j 0 = zs[j]'(by omega) := by simp [List.getD, List.getElem?_eq_getElem (show j < zs.length by omega)]
  exact ⟨b, off, e, by rw [hg]; exact hc, by rw [hg]; exact hb.1 _ (List.getElem_mem _)⟩
theorem cell_at {w : World} {b off : Nat} {zs : List Nat} {n : Nat} (hb : BytesAt w (some ⟨b, off, none⟩) zs) (hl : zs.length = n) (j : Nat) (hj : j < n) : w.cell? ⟨b, off + j, none⟩ = some (.int .u8 (zs.getD j 0 : Int)) ∧ zs.getD j 0 < 256 := by
  obtain ⟨b', off', e, hc, hz⟩ := byte_at hb hl j hj
  cases e
  exact ⟨hc, hz⟩
theorem lit0 (w : World) : (Instr.index 59 (.agg #[.int .u8 77, .int .u8 68]) (.int .i64 0)).run Tryd.prog w = .ok (.int .u8 77) w := by
  simp [Instr.index, asIntOf, run_underlying Tryd.underlying59, go_sem]
theorem lit1 (w : World) : (Instr.index 59 (.agg #[.int .u8 77, .int .u8 68]) (.int .i64 1)).run Tryd.prog w = .ok (.int .u8 68) w := by
  simp [Instr.index, asIntOf, run_underlying Tryd.underlying59, go_sem]
theorem i64_or_nat (a b : Nat) (ha : a < 9223372036854775808) (hb : b < 9223372036854775808) : bits .or .i64 (a : Int) (b : Int) = ((a ||| b : Nat) : Int) := by
  show IntKind.i64.wrap ((BitVec.ofInt 64 (a : Int) ||| BitVec.ofInt 64 (b : Int)).toNat : Nat) = _
  have h := Nat.or_lt_two_pow (n := 63) ha hb
  rw [BitVec.toNat_or, ofInt_u64 a (by omega), ofInt_u64 b (by omega), IntWalk.i64_in _ (by omega)]
theorem or8 {x y : Nat} (hx : x < 256) (hy : y < 256) : bits .or .i64 (x : Int) ((y : Int) * 256) = ((x + 256 * y : Nat) : Int) := by
  have h := i64_or_nat x (y * 256) (by omega) (by omega)
  rw [show ((y : Int) * 256) = ((y * 256 : Nat) : Int) by rw [Int.natCast_mul]; rfl, h]
  congr 1
  have := Nat.shiftLeft_add_eq_or_of_lt (b := x) (i := 8) (by omega) y
  rw [Nat.shiftLeft_eq, show (2 : Nat) ^ 8 = 256 from rfl] at this
  rw [Nat.or_comm]
  omega

set_option maxHeartbeats 1000000 in
set_option maxRecDepth 20000 in
theorem frame_bad0 {w : World} {a : Option Addr} {cap n : Nat} {zs : List Nat} (hb : BytesAt w a zs) (hl : zs.length = n) (h0 : 0 < n) (hk : ¬ zs.getD 0 0 = 77) :
    Calls Tryd.prog 14 #[.slice a n cap] w fun e w' => e = .returned (.tuple #[.slice none 0 0, .int .i64 0, .int .i64 4]) ∧ Below w.heap.size w w' := by
  obtain ⟨b, off, rfl, -, -⟩ := byte_at hb hl 0 (by omega)
  obtain ⟨hc0, hz0⟩ := cell_at hb hl 0 (by omega)
  rw [Nat.add_zero] at hc0
  obtain ⟨z0, e0⟩ : ∃ z, z = zs.getD 0 0 := ⟨_, rfl⟩
  rw [← e0] at hc0 hz0
  rw [← e0] at hk
  clear e0 hb hl
  have k0 := lit0 w
  have k1 := lit1 w
  go_enter Tryd.func14, Tryd.ntmps14
  go_wp2
  refine wp_loop_rounds 1 ?_
  rw [rounds_succ]
  go_wp2
  (try simp only [Exit.inBlock, Exit.then])
  refine bodyPost_ret (results_tmp3 rfl _ _ _) rfl ?_
  exact ⟨rfl, Below.refl _ _⟩
set_option maxHeartbeats 1000000 in
set_option maxRecDepth 20000 in
theorem frame_bad1 {w : World} {a : Option Addr} {cap n : Nat} {zs : List Nat} (hb : BytesAt w a zs) (hl : zs.length = n) (h0 : 1 < n) (hk0 : zs.getD 0 0 = 77) (hk : ¬ zs.getD 1 0 = 68) :
    Calls Tryd.prog 14 #[.slice a n cap] w fun e w' => e = .returned (.tuple #[.slice none 0 0, .int .i64 0, .int .i64 4]) ∧ Below w.heap.size w w' := by
  obtain ⟨b, off, rfl, -, -⟩ := byte_at hb hl 0 (by omega)
  obtain ⟨hc0, hz0⟩ := cell_at hb hl 0 (by omega)
  rw [Nat.add_zero] at hc0
  obtain ⟨hc1, hz1⟩ := cell_at hb hl 1 (by omega)
  rw [hk0, show ((77 : Nat) : Int) = 77 from rfl] at hc0
  clear hz0 hk0
  obtain ⟨z1, e1⟩ : ∃ z, z = zs.getD 1 0 := ⟨_, rfl⟩
  rw [← e1] at hc1 hz1
  rw [← e1] at hk
  clear e1 hb hl
  have h1 : 0 < n := by omega
  have k0 := lit0 w
  have k1 := lit1 w
  go_enter Tryd.func14, Tryd.ntmps14
  go_wp2
  refine wp_loop_rounds 2 ?_
  rw [rounds_succ]
  go_wp2
  rw [rounds_succ]
  go_wp2
  (try simp only [Exit.inBlock, Exit.then])
  refine bodyPost_ret (results_tmp3 rfl _ _ _) rfl ?_
  exact ⟨rfl, Below.refl _ _⟩
set_option maxHeartbeats 1000000 in
set_option maxRecDepth 20000 in
theorem frame_none {w : World} {a : Option Addr} {cap n : Nat} (h0 : n = 0) :
    Calls Tryd.prog 14 #[.slice a n cap] w fun e w' => e = .returned (.tuple #[.slice none 0 0, .int .i64 0, .int .i64 17]) ∧ Below w.heap.size w w' := by
  subst h0
  have k0 := lit0 w
  have k1 := lit1 w
  go_enter Tryd.func14, Tryd.ntmps14
  go_wp2
  refine wp_loop_rounds 3 ?_
  rw [rounds_succ]
  go_wp2
  rw [rounds_succ]
  go_wp2
  rw [rounds_succ]
  go_wp2
  (try simp only [Exit.inBlock, Exit.then])
  refine bodyPost_ret (results_tmp3 rfl _ _ _) rfl ?_
  exact ⟨rfl, Below.refl _ _⟩
set_option maxHeartbeats 1000000 in
set_option maxRecDepth 20000 in
theorem frame_one {w : World} {a : Option Addr} {cap n : Nat} {zs : List Nat} (hb : BytesAt w a zs) (hl : zs.length = n) (h0 : n = 1) (hk0 : zs.getD 0 0 = 77) :
    Calls Tryd.prog 14 #[.slice a n cap] w fun e w' => e = .returned (.tuple #[.slice none 0 0, .int .i64 0, .int .i64 17]) ∧ Below w.heap.size w w' := by
  obtain ⟨b, off, rfl, -, -⟩ := byte_at hb hl 0 (by omega)
  obtain ⟨hc0, hz0⟩ := cell_at hb hl 0 (by omega)
  rw [Nat.add_zero] at hc0
  rw [hk0, show ((77 : Nat) : Int) = 77 from rfl] at hc0
  clear hz0 hk0
  clear hb hl
  subst h0
  have k0 := lit0 w
  have k1 := lit1 w
  go_enter Tryd.func14, Tryd.ntmps14
  go_wp2
  refine wp_loop_rounds 3 ?_
  rw [rounds_succ]
  go_wp2
  rw [rounds_succ]
  go_wp2
  rw [rounds_succ]
  go_wp2
  (try simp only [Exit.inBlock, Exit.then])
  refine bodyPost_ret (results_tmp3 rfl _ _ _) rfl ?_
  exact ⟨rfl, Below.refl _ _⟩
set_option maxHeartbeats 1000000 in
set_option maxRecDepth 20000 in
theorem frame_few {w : World} {a : Option Addr} {cap n : Nat} {zs : List Nat} (hb : BytesAt w a zs) (hl : zs.length = n) (h0 : 1 < n) (h4 : n < 4) (hk0 : zs.getD 0 0 = 77) (hk1 : zs.getD 1 0 = 68) :
    Calls Tryd.prog 14 #[.slice a n cap] w fun e w' => e = .returned (.tuple #[.slice none 0 0, .int .i64 0, .int .i64 17]) ∧ Below w.heap.size w w' := by
  obtain ⟨b, off, rfl, -, -⟩ := byte_at hb hl 0 (by omega)
  obtain ⟨hc0, hz0⟩ := cell_at hb hl 0 (by omega)
  rw [Nat.add_zero] at hc0
  obtain ⟨hc1, hz1⟩ := cell_at hb hl 1 (by omega)
  rw [hk0, show ((77 : Nat) : Int) = 77 from rfl] at hc0
  clear hz0 hk0
  rw [hk1, show ((68 : Nat) : Int) = 68 from rfl] at hc1
  clear hz1 hk1
  clear hb hl
  have h1 : 0 < n := by omega
  have k0 := lit0 w
  have k1 := lit1 w
  go_enter Tryd.func14, Tryd.ntmps14
  go_wp2
  refine wp_loop_rounds 3 ?_
  rw [rounds_succ]
  go_wp2
  rw [rounds_succ]
  go_wp2
  rw [rounds_succ]
  go_wp2
  (try simp only [Exit.inBlock, Exit.then])
  refine bodyPost_ret (results_tmp3 rfl _ _ _) rfl ?_
  exact ⟨rfl, Below.refl _ _⟩
set_option maxHeartbeats 1000000 in
set_option maxRecDepth 20000 in
theorem frame_big {w : World} {a : Option Addr} {cap n : Nat} {zs : List Nat} (hb : BytesAt w a zs) (hl : zs.length = n) (h4 : 4 ≤ n) (hk0 : zs.getD 0 0 = 77) (hk1 : zs.getD 1 0 = 68) {s : Nat} (hs : s = zs.getD 2 0 + 256 * zs.getD 3 0) (h5 : 12000 < s) :
    Calls Tryd.prog 14 #[.slice a n cap] w fun e w' => e = .returned (.tuple #[.slice none 0 0, .int .i64 0, .int .i64 2]) ∧ Below w.heap.size w w' := by
  obtain ⟨b, off, rfl, -, -⟩ := byte_at hb hl 0 (by omega)
  obtain ⟨hc0, hz0⟩ := cell_at hb hl 0 (by omega)
  rw [Nat.add_zero] at hc0
  obtain ⟨hc1, hz1⟩ := cell_at hb hl 1 (by omega)
  obtain ⟨hc2, hz2⟩ := cell_at hb hl 2 (by omega)
  obtain ⟨hc3, hz3⟩ := cell_at hb hl 3 (by omega)
  rw [hk0, show ((77 : Nat) : Int) = 77 from rfl] at hc0
  clear hz0 hk0
  rw [hk1, show ((68 : Nat) : Int) = 68 from rfl] at hc1
  clear hz1 hk1
  obtain ⟨z2, e2⟩ : ∃ z, z = zs.getD 2 0 := ⟨_, rfl⟩
  rw [← e2] at hc2 hz2
  obtain ⟨z3, e3⟩ : ∃ z, z = zs.getD 3 0 := ⟨_, rfl⟩
  rw [← e3] at hc3 hz3
  rw [← e2, ← e3] at hs
  have E := or8 hz2 hz3
  rw [← hs] at E
  have HBD : Hid (Below w.heap.size w w.drew) := Lib.hid (Below.drew (Below.refl _ _))
  clear e2 e3 hb hl hs
  have h1 : 0 < n := by omega
  have h2 : 1 < n := by omega
  have h3 : ¬ n < 4 := by omega
  have hi2 : 2 < n := by omega
  have hi3 : 3 < n := by omega
  have k0 := lit0 w
  have k1 := lit1 w
  go_enter Tryd.func14, Tryd.ntmps14
  go_wp2
  refine wp_loop_rounds 3 ?_
  rw [rounds_succ]
  go_wp2
  rw [rounds_succ]
  go_wp2
  rw [rounds_succ]
  go_wp2
  go_region
  go_wp2
  (try simp only [Exit.inBlock, Exit.then])
  refine bodyPost_ret (results_tmp3 rfl _ _ _) rfl ?_
  exact ⟨rfl, HBD.out⟩
set_option maxHeartbeats 1000000 in
set_option maxRecDepth 20000 in
theorem frame_lack {w : World} {a : Option Addr} {cap n : Nat} {zs : List Nat} (hb : BytesAt w a zs) (hl : zs.length = n) (h4 : 4 ≤ n) (hk0 : zs.getD 0 0 = 77) (hk1 : zs.getD 1 0 = 68) {s : Nat} (hs : s = zs.getD 2 0 + 256 * zs.getD 3 0) (h5 : ¬ 12000 < s) (h6 : n < 4 + s + 4) :
    Calls Tryd.prog 14 #[.slice a n cap] w fun e w' => e = .returned (.tuple #[.slice none 0 0, .int .i64 0, .int .i64 17]) ∧ Below w.heap.size w w' := by
  obtain ⟨b, off, rfl, -, -⟩ := byte_at hb hl 0 (by omega)
  obtain ⟨hc0, hz0⟩ := cell_at hb hl 0 (by omega)
  rw [Nat.add_zero] at hc0
  obtain ⟨hc1, hz1⟩ := cell_at hb hl 1 (by omega)
  obtain ⟨hc2, hz2⟩ := cell_at hb hl 2 (by omega)
  obtain ⟨hc3, hz3⟩ := cell_at hb hl 3 (by omega)
  rw [hk0, show ((77 : Nat) : Int) = 77 from rfl] at hc0
  clear hz0 hk0
  rw [hk1, show ((68 : Nat) : Int) = 68 from rfl] at hc1
  clear hz1 hk1
  obtain ⟨z2, e2⟩ : ∃ z, z = zs.getD 2 0 := ⟨_, rfl⟩
  rw [← e2] at hc2 hz2
  obtain ⟨z3, e3⟩ : ∃ z, z = zs.getD 3 0 := ⟨_, rfl⟩
  rw [← e3] at hc3 hz3
  rw [← e2, ← e3] at hs
  have E := or8 hz2 hz3
  rw [← hs] at E
  have HBD : Hid (Below w.heap.size w w.drew) := Lib.hid (Below.drew (Below.refl _ _))
  clear e2 e3 hb hl hs
  have h1 : 0 < n := by omega
  have h2 : 1 < n := by omega
  have h3 : ¬ n < 4 := by omega
  have hi2 : 2 < n := by omega
  have hi3 : 3 < n := by omega
  have k0 := lit0 w
  have k1 := lit1 w
  go_enter Tryd.func14, Tryd.ntmps14
  go_wp2
  refine wp_loop_rounds 3 ?_
  rw [rounds_succ]
  go_wp2
  rw [rounds_succ]
  go_wp2
  rw [rounds_succ]
  go_wp2
  go_region
  go_wp2
  (try simp only [Exit.inBlock, Exit.then])
  refine bodyPost_ret (results_tmp3 rfl _ _ _) rfl ?_
  exact ⟨rfl, HBD.out⟩
set_option maxHeartbeats 1000000 in
set_option maxRecDepth 20000 in
theorem frame_sum {w : World} {a : Option Addr} {cap n : Nat} {zs : List Nat} (hb : BytesAt w a zs) (hl : zs.length = n) (h4 : 4 ≤ n) (hcap : n ≤ cap) (hT : TabAt w) (hk0 : zs.getD 0 0 = 77) (hk1 : zs.getD 1 0 = 68) {s : Nat} (hs : s = zs.getD 2 0 + 256 * zs.getD 3 0) (h5 : ¬ 12000 < s) (h6 : ¬ n < 4 + s + 4) (h7 : ¬ num ((zs.drop (4 + s)).take 4) = more 0 (zs.take (4 + s))) :
    Calls Tryd.prog 14 #[.slice a n cap] w fun e w' => e = .returned (.tuple #[.slice none 0 0, .int .i64 (4 + (s : Int) + 4), .int .i64 8]) ∧ Below w.heap.size w w' := by
  obtain ⟨b, off, rfl, -, -⟩ := byte_at hb hl 0 (by omega)
  obtain ⟨hc0, hz0⟩ := cell_at hb hl 0 (by omega)
  rw [Nat.add_zero] at hc0
  obtain ⟨hc1, hz1⟩ := cell_at hb hl 1 (by omega)
  obtain ⟨hc2, hz2⟩ := cell_at hb hl 2 (by omega)
  obtain ⟨hc3, hz3⟩ := cell_at hb hl 3 (by omega)
  rw [hk0, show ((77 : Nat) : Int) = 77 from rfl] at hc0
  clear hz0 hk0
  rw [hk1, show ((68 : Nat) : Int) = 68 from rfl] at hc1
  clear hz1 hk1
  obtain ⟨z2, e2⟩ : ∃ z, z = zs.getD 2 0 := ⟨_, rfl⟩
  rw [← e2] at hc2 hz2
  obtain ⟨z3, e3⟩ : ∃ z, z = zs.getD 3 0 := ⟨_, rfl⟩
  rw [← e3] at hc3 hz3
  rw [← e2, ← e3] at hs
  have E := or8 hz2 hz3
  rw [← hs] at E
  have HB := Lib.hid hb
  have HT := Lib.hid hT
  have HL := Lib.hid hl
  have HBD : Hid (Below w.heap.size w w.drew) := Lib.hid (Below.drew (Below.refl _ _))
  clear e2 e3 hb hl hT hs
  have h1 : 0 < n := by omega
  have h2 : 1 < n := by omega
  have h3 : ¬ n < 4 := by omega
  have hi2 : 2 < n := by omega
  have hi3 : 3 < n := by omega
  have k0 := lit0 w
  have k1 := lit1 w
  obtain ⟨t, ht⟩ : ∃ t, t = num ((zs.drop (4 + s)).take 4) := ⟨_, rfl⟩
  obtain ⟨m, hmo⟩ : ∃ m, m = more 0 (zs.take (4 + s)) := ⟨_, rfl⟩
  rw [← ht, ← hmo] at h7
  have HG : Hid (∀ V, Below w.heap.size w V → Calls Tryd.prog 21 #[.slice (some ⟨b, off, none⟩) n cap, .int .i64 (4 + (s : Int)), .int .i64 4] V fun e w' => e = .returned (.tuple #[.int .u64 (t : Int), .int .i64 0]) ∧ V = w') := Lib.hid (fun V hV => by
    have h := get_yes (some ⟨b, off, none⟩) cap zs (4 + s) 4 V (bytes_below HB.out hV) (.inr (.inr (.inl rfl))) (by rw [HL.out]; omega)
    rw [HL.out, show (4 : Int).toNat = 4 from rfl, ← ht, show ((4 + s : Nat) : Int) = 4 + (s : Int) by omega] at h
    exact h)
  have HO : Hid (∀ V, Below w.heap.size w V → Calls Tryd.prog 19 #[.slice (some ⟨b, off, none⟩) (4 + s) cap] V fun e w' => e = .returned (.int .u32 (m : Int)) ∧ V = w') := Lib.hid (fun V hV => by
    rw [hmo]
    exact of_at (bytes_prefix (m := zs.drop (4 + s)) (by rw [List.take_append_drop]; exact bytes_below HB.out hV)) (by rw [List.length_take, HL.out]; omega) (tab_below HT.out hV))
  have hm4 : m < 4294967296 := by rw [hmo]; exact more_lt (by decide) _ (fun c hc => HB.out.1 c (List.mem_of_mem_take hc))
  have hc4 : 4 + s ≤ cap := by omega
  clear ht hmo
  go_enter Tryd.func14, Tryd.ntmps14
  go_wp2
  refine wp_loop_rounds 3 ?_
  rw [rounds_succ]
  go_wp2
  rw [rounds_succ]
  go_wp2
  rw [rounds_succ]
  go_wp2
  go_region
  go_wp2_with (first | (go_at_call 21; (with_reducible refine (HG.out _ HBD.out).mono ?_); rintro e w' ⟨rfl, rfl⟩) | (go_at_call 19; (with_reducible refine (HO.out _ HBD.out).mono ?_); rintro e w' ⟨rfl, rfl⟩))
  (try simp only [Exit.inBlock, Exit.then])
  refine bodyPost_ret (results_tmp3 rfl _ _ _) rfl ?_
  exact ⟨rfl, HBD.out⟩
/-- What frame tells of a good frame. -/
def Framed (w : World) (zs : List Nat) (s : Nat) (e : Ending) (w' : World) : Prop := ∃ a', e = .returned (.tuple #[.slice a' s s, .int .i64 (4 + (s : Int) + 4), .int .i64 0]) ∧ BytesAt w' a' ((zs.drop 4).take s) ∧ Below w.heap.size w w'
theorem framed_mid {w : World} {b off s : Nat} {zs : List Nat} (hb : BytesAt w (some ⟨b, off, none⟩) zs) : BytesAt w (some ⟨b, off + 4, none⟩) ((zs.drop 4).take s) := bytes_prefix (m := (zs.drop 4).drop s) (by rw [List.take_append_drop]; exact bytes_sub hb 4)
set_option maxHeartbeats 1000000 in
set_option maxRecDepth 20000 in
theorem frame_good {w : World} {a : Option Addr} {cap n : Nat} {zs : List Nat} (hb : BytesAt w a zs) (hl : zs.length = n) (h4 : 4 ≤ n) (hcap : n ≤ cap) (hT : TabAt w) (hk0 : zs.getD 0 0 = 77) (hk1 : zs.getD 1 0 = 68) {s : Nat} (hs : s = zs.getD 2 0 + 256 * zs.getD 3 0) (h5 : ¬ 12000 < s) (h6 : ¬ n < 4 + s + 4) (h7 : num ((zs.drop (4 + s)).take 4) = more 0 (zs.take (4 + s))) :
    Calls Tryd.prog 14 #[.slice a n cap] w fun e w' => Framed w zs s e w' := by
  obtain ⟨b, off, rfl, -, -⟩ := byte_at hb hl 0 (by omega)
  obtain ⟨hc0, hz0⟩ := cell_at hb hl 0 (by omega)
  rw [Nat.add_zero] at hc0
  obtain ⟨hc1, hz1⟩ := cell_at hb hl 1 (by omega)
  obtain ⟨hc2, hz2⟩ := cell_at hb hl 2 (by omega)
  obtain ⟨hc3, hz3⟩ := cell_at hb hl 3 (by omega)
  rw [hk0, show ((77 : Nat) : Int) = 77 from rfl] at hc0
  clear hz0 hk0
  rw [hk1, show ((68 : Nat) : Int) = 68 from rfl] at hc1
  clear hz1 hk1
  obtain ⟨z2, e2⟩ : ∃ z, z = zs.getD 2 0 := ⟨_, rfl⟩
  rw [← e2] at hc2 hz2
  obtain ⟨z3, e3⟩ : ∃ z, z = zs.getD 3 0 := ⟨_, rfl⟩
  rw [← e3] at hc3 hz3
  rw [← e2, ← e3] at hs
  have E := or8 hz2 hz3
  rw [← hs] at E
  have HB := Lib.hid hb
  have HT := Lib.hid hT
  have HL := Lib.hid hl
  have HBD : Hid (Below w.heap.size w w.drew) := Lib.hid (Below.drew (Below.refl _ _))
  clear e2 e3 hb hl hT hs
  have h1 : 0 < n := by omega
  have h2 : 1 < n := by omega
  have h3 : ¬ n < 4 := by omega
  have hi2 : 2 < n := by omega
  have hi3 : 3 < n := by omega
  have k0 := lit0 w
  have k1 := lit1 w
  obtain ⟨t, ht⟩ : ∃ t, t = num ((zs.drop (4 + s)).take 4) := ⟨_, rfl⟩
  obtain ⟨m, hmo⟩ : ∃ m, m = more 0 (zs.take (4 + s)) := ⟨_, rfl⟩
  rw [← ht, ← hmo] at h7
  have HG : Hid (∀ V, Below w.heap.size w V → Calls Tryd.prog 21 #[.slice (some ⟨b, off, none⟩) n cap, .int .i64 (4 + (s : Int)), .int .i64 4] V fun e w' => e = .returned (.tuple #[.int .u64 (t : Int), .int .i64 0]) ∧ V = w') := Lib.hid (fun V hV => by
    have h := get_yes (some ⟨b, off, none⟩) cap zs (4 + s) 4 V (bytes_below HB.out hV) (.inr (.inr (.inl rfl))) (by rw [HL.out]; omega)
    rw [HL.out, show (4 : Int).toNat = 4 from rfl, ← ht, show ((4 + s : Nat) : Int) = 4 + (s : Int) by omega] at h
    exact h)
  have HO : Hid (∀ V, Below w.heap.size w V → Calls Tryd.prog 19 #[.slice (some ⟨b, off, none⟩) (4 + s) cap] V fun e w' => e = .returned (.int .u32 (m : Int)) ∧ V = w') := Lib.hid (fun V hV => by
    rw [hmo]
    exact of_at (bytes_prefix (m := zs.drop (4 + s)) (by rw [List.take_append_drop]; exact bytes_below HB.out hV)) (by rw [List.length_take, HL.out]; omega) (tab_below HT.out hV))
  have hm4 : m < 4294967296 := by rw [hmo]; exact more_lt (by decide) _ (fun c hc => HB.out.1 c (List.mem_of_mem_take hc))
  have hc4 : 4 + s ≤ cap := by omega
  clear ht hmo
  subst h7
  have hc5 : 4 ≤ 4 + s := by omega
  have hsub : 4 + s - 4 = s := by omega
  have HZ : Hid (BytesAt w.drew (some ⟨b, off + 4, none⟩) ((zs.drop 4).take s)) := Lib.hid (framed_mid (bytes_below HB.out HBD.out))
  generalize hQ : Framed w zs s = Q
  have HQ := Lib.hid hQ
  clear hQ
  go_enter Tryd.func14, Tryd.ntmps14
  go_wp2
  refine wp_loop_rounds 3 ?_
  rw [rounds_succ]
  go_wp2
  rw [rounds_succ]
  go_wp2
  rw [rounds_succ]
  go_wp2
  go_region
  go_wp2_with (first | (go_at_call 21; (with_reducible refine (HG.out _ HBD.out).mono ?_); rintro e w' ⟨rfl, rfl⟩) | (go_at_call 19; (with_reducible refine (HO.out _ HBD.out).mono ?_); rintro e w' ⟨rfl, rfl⟩))
  all_goals (try simp only [Exit.inBlock, Exit.then])
  all_goals refine bodyPost_ret (results_tmp3 rfl _ _ _) rfl ?_
  all_goals rw [← HQ.out]
  all_goals first | exact ⟨_, rfl, HZ.out, HBD.out⟩ | (obtain rfl : s = 0 := (by omega); exact ⟨_, rfl, ⟨fun c hc => (by rw [List.take_zero] at hc; cases hc), Nat.zero_le _, fun j hj => absurd hj (by rw [List.take_zero]; exact Nat.not_lt_zero _)⟩, HBD.out⟩)
/-- A frame's number of bytes, and the error: as the document has them. -/
def headOf (zs : List Nat) : Nat × Nat :=
  if (0 < zs.length ∧ ¬ zs.getD 0 0 = 77) ∨ (1 < zs.length ∧ ¬ zs.getD 1 0 = 68) then (0, 4)
  else if zs.length < 4 then (0, 17)
  else if 12000 < zs.getD 2 0 + 256 * zs.getD 3 0 then (0, 2)
  else if zs.length < 4 + (zs.getD 2 0 + 256 * zs.getD 3 0) + 4 then (0, 17)
  else if num ((zs.drop (4 + (zs.getD 2 0 + 256 * zs.getD 3 0))).take 4) = more 0 (zs.take (4 + (zs.getD 2 0 + 256 * zs.getD 3 0))) then (4 + (zs.getD 2 0 + 256 * zs.getD 3 0) + 4, 0)
  else (4 + (zs.getD 2 0 + 256 * zs.getD 3 0) + 4, 8)
/-- What frame tells. -/
def FrameOut (w : World) (zs : List Nat) (e : Ending) (w' : World) : Prop :=
  (¬ (headOf zs).2 = 0 ∧ e = .returned (.tuple #[.slice none 0 0, .int .i64 ((headOf zs).1 : Int), .int .i64 ((headOf zs).2 : Int)]) ∧ Below w.heap.size w w') ∨
  ((headOf zs).2 = 0 ∧ ∃ s, (headOf zs).1 = 4 + s + 4 ∧ 4 + s + 4 ≤ zs.length ∧ Framed w zs s e w')
theorem frame_any {w : World} {a : Option Addr} {cap n : Nat} {zs : List Nat} (hb : BytesAt w a zs) (hl : zs.length = n) (hcap : n ≤ cap) (hT : TabAt w) :
    Calls Tryd.prog 14 #[.slice a n cap] w (FrameOut w zs) := by
  have out : ∀ k d : Nat, headOf zs = (k, d) → ¬ d = 0 → (Calls Tryd.prog 14 #[.slice a n cap] w fun e w' => e = .returned (.tuple #[.slice none 0 0, .int .i64 (k : Int), .int .i64 (d : Int)]) ∧ Below w.heap.size w w') → Calls Tryd.prog 14 #[.slice a n cap] w (FrameOut w zs) := fun k d h h0 hc => by
    refine hc.mono ?_
    rintro e w' ⟨rfl, hb'⟩
    exact .inl ⟨by rw [h]; exact h0, by rw [h], hb'⟩
  by_cases c0 : 0 < n ∧ ¬ zs.getD 0 0 = 77
  · exact out 0 4 (by rw [headOf, if_pos (.inl ⟨by omega, c0.2⟩)]) (by decide) (frame_bad0 hb hl c0.1 c0.2)
  by_cases c1 : 1 < n ∧ ¬ zs.getD 1 0 = 68
  · exact out 0 4 (by rw [headOf, if_pos (.inr ⟨by omega, c1.2⟩)]) (by decide) (frame_bad1 hb hl c1.1 (by by_cases h : zs.getD 0 0 = 77; exact h; exact absurd ⟨by omega, h⟩ c0) c1.2)
  have hno : ¬ ((0 < zs.length ∧ ¬ zs.getD 0 0 = 77) ∨ (1 < zs.length ∧ ¬ zs.getD 1 0 = 68)) := by
    rw [hl]
    rintro (h | h)
    · exact c0 h
    · exact c1 h
  have k0 : 0 < n → zs.getD 0 0 = 77 := fun h => by by_cases h' : zs.getD 0 0 = 77; exact h'; exact absurd ⟨h, h'⟩ c0
  have k1 : 1 < n → zs.getD 1 0 = 68 := fun h => by by_cases h' : zs.getD 1 0 = 68; exact h'; exact absurd ⟨h, h'⟩ c1
  by_cases c4 : n < 4
  · refine out 0 17 (by rw [headOf, if_neg hno, if_pos (by omega)]) (by decide) ?_
    by_cases d0 : n = 0
    · exact frame_none d0
    by_cases d1 : n = 1
    · exact frame_one hb hl d1 (k0 (by omega))
    · exact frame_few hb hl (by omega) c4 (k0 (by omega)) (k1 (by omega))
  have q0 := k0 (by omega)
  have q1 := k1 (by omega)
  obtain ⟨s, hs⟩ : ∃ s, s = zs.getD 2 0 + 256 * zs.getD 3 0 := ⟨_, rfl⟩
  have hh : headOf zs = if 12000 < s then (0, 2) else if n < 4 + s + 4 then (0, 17) else if num ((zs.drop (4 + s)).take 4) = more 0 (zs.take (4 + s)) then (4 + s + 4, 0) else (4 + s + 4, 8) := by
    rw [headOf, if_neg hno, if_neg (by omega), ← hs, hl]
  by_cases c5 : 12000 < s
  · exact out 0 2 (by rw [hh, if_pos c5]) (by decide) (frame_big hb hl (by omega) q0 q1 hs c5)
  by_cases c6 : n < 4 + s + 4
  · exact out 0 17 (by rw [hh, if_neg c5, if_pos c6]) (by decide) (frame_lack hb hl (by omega) q0 q1 hs c5 c6)
  by_cases c7 : num ((zs.drop (4 + s)).take 4) = more 0 (zs.take (4 + s))
  · have he : headOf zs = (4 + s + 4, 0) := by rw [hh, if_neg c5, if_neg c6, if_pos c7]
    exact (frame_good hb hl (by omega) hcap hT q0 q1 hs c5 c6 c7).mono fun e w' h => .inr ⟨by rw [he], s, by rw [he], by omega, h⟩
  · exact out (4 + s + 4) 8 (by rw [hh, if_neg c5, if_neg c6, if_neg c7]) (by decide) (frame_sum hb hl (by omega) hcap hT q0 q1 hs c5 c6 c7)
end Go.Proofs.YteplapigkofgaaaDoor

/- The document's own Head: a contract. -/
import Derived.Test.YteplapigkofgaaaDoorWirHead
namespace Go.Proofs.YteplapigkofgaaaDoor
open Go.ChangeShapes Go.WideShapes Go.ChangeAt Go.RowKit

theorem num_two {zs : List Nat} (h : 4 ≤ zs.length) : num ((zs.drop 2).take 2) = zs.getD 2 0 + 256 * zs.getD 3 0 := by
  match zs, h with
  | _ :: _ :: x :: y :: _, _ => simp [num]

set_option maxHeartbeats 1000000 in
set_option maxRecDepth 20000 in
theorem head_bad0 {w : World} {a : Option Addr} {cap n : Nat} {zs : List Nat} (hb : BytesAt w a zs) (hl : zs.length = n) (h0 : 0 < n) (hk : ¬ zs.getD 0 0 = 77) :
    Calls Tryd.prog 17 #[.slice a n cap] w fun e w' => e = .returned (.tuple #[.int .i64 0, .int .i64 4]) ∧ Below w.heap.size w w' := by
  obtain ⟨b, off, rfl, -, -⟩ := byte_at hb hl 0 (by omega)
  obtain ⟨hc0, hz0⟩ := cell_at hb hl 0 (by omega)
  rw [Nat.add_zero] at hc0
  obtain ⟨z0, e0⟩ : ∃ z, z = zs.getD 0 0 := ⟨_, rfl⟩
  rw [← e0] at hc0 hz0
  rw [← e0] at hk
  clear e0 hb hl
  have k0 := lit0
  have k1 := lit1
  have HB0 : Hid (Below w.heap.size w w) := Lib.hid (Below.refl _ _)
  go_enter Tryd.func17, Tryd.ntmps17
  go_wp2
  refine wp_loop_rounds 1 ?_
  rw [rounds_succ]
  go_wp2
  go_region
  go_wp2
  go_ret2
  exact ⟨rfl, by repeat (first | exact HB0.out | refine Below.drew ?_)⟩
set_option maxHeartbeats 1000000 in
set_option maxRecDepth 20000 in
theorem head_bad1 {w : World} {a : Option Addr} {cap n : Nat} {zs : List Nat} (hb : BytesAt w a zs) (hl : zs.length = n) (h0 : 1 < n) (hk0 : zs.getD 0 0 = 77) (hk : ¬ zs.getD 1 0 = 68) :
    Calls Tryd.prog 17 #[.slice a n cap] w fun e w' => e = .returned (.tuple #[.int .i64 0, .int .i64 4]) ∧ Below w.heap.size w w' := by
  obtain ⟨b, off, rfl, -, -⟩ := byte_at hb hl 0 (by omega)
  obtain ⟨hc0, hz0⟩ := cell_at hb hl 0 (by omega)
  rw [Nat.add_zero] at hc0
  obtain ⟨hc1, hz1⟩ := cell_at hb hl 1 (by omega)
  rw [hk0, show ((77 : Nat) : Int) = 77 from rfl] at hc0
  clear hz0 hk0
  obtain ⟨z1, e1⟩ : ∃ z, z = zs.getD 1 0 := ⟨_, rfl⟩
  rw [← e1] at hc1 hz1
  rw [← e1] at hk
  clear e1 hb hl
  have h1 : 0 < n := by omega
  have k0 := lit0
  have k1 := lit1
  have HB0 : Hid (Below w.heap.size w w) := Lib.hid (Below.refl _ _)
  go_enter Tryd.func17, Tryd.ntmps17
  go_wp2
  refine wp_loop_rounds 2 ?_
  rw [rounds_succ]
  go_wp2
  go_region
  go_wp2
  rw [rounds_succ]
  go_wp2
  go_region
  go_wp2
  go_ret2
  exact ⟨rfl, by repeat (first | exact HB0.out | refine Below.drew ?_)⟩
set_option maxHeartbeats 1000000 in
set_option maxRecDepth 20000 in
theorem head_none {w : World} {a : Option Addr} {cap n : Nat} (h0 : n = 0) :
    Calls Tryd.prog 17 #[.slice a n cap] w fun e w' => e = .returned (.tuple #[.int .i64 0, .int .i64 17]) ∧ Below w.heap.size w w' := by
  subst h0
  have k0 := lit0
  have k1 := lit1
  have HB0 : Hid (Below w.heap.size w w) := Lib.hid (Below.refl _ _)
  go_enter Tryd.func17, Tryd.ntmps17
  go_wp2
  refine wp_loop_rounds 1 ?_
  rw [rounds_succ]
  go_wp2
  go_ret2
  exact ⟨rfl, by repeat (first | exact HB0.out | refine Below.drew ?_)⟩
set_option maxHeartbeats 1000000 in
set_option maxRecDepth 20000 in
theorem head_one {w : World} {a : Option Addr} {cap n : Nat} {zs : List Nat} (hb : BytesAt w a zs) (hl : zs.length = n) (h0 : n = 1) (hk0 : zs.getD 0 0 = 77) :
    Calls Tryd.prog 17 #[.slice a n cap] w fun e w' => e = .returned (.tuple #[.int .i64 0, .int .i64 17]) ∧ Below w.heap.size w w' := by
  obtain ⟨b, off, rfl, -, -⟩ := byte_at hb hl 0 (by omega)
  obtain ⟨hc0, hz0⟩ := cell_at hb hl 0 (by omega)
  rw [Nat.add_zero] at hc0
  rw [hk0, show ((77 : Nat) : Int) = 77 from rfl] at hc0
  clear hz0 hk0
  clear hb hl
  subst h0
  have k0 := lit0
  have k1 := lit1
  have HB0 : Hid (Below w.heap.size w w) := Lib.hid (Below.refl _ _)
  go_enter Tryd.func17, Tryd.ntmps17
  go_wp2
  refine wp_loop_rounds 2 ?_
  rw [rounds_succ]
  go_wp2
  go_region
  go_wp2
  rw [rounds_succ]
  go_wp2
  go_ret2
  exact ⟨rfl, by repeat (first | exact HB0.out | refine Below.drew ?_)⟩
set_option maxHeartbeats 1000000 in
set_option maxRecDepth 20000 in
theorem head_few {w : World} {a : Option Addr} {cap n : Nat} {zs : List Nat} (hb : BytesAt w a zs) (hl : zs.length = n) (h0 : 1 < n) (h4 : n < 4) (hk0 : zs.getD 0 0 = 77) (hk1 : zs.getD 1 0 = 68) :
    Calls Tryd.prog 17 #[.slice a n cap] w fun e w' => e = .returned (.tuple #[.int .i64 0, .int .i64 17]) ∧ Below w.heap.size w w' := by
  obtain ⟨b, off, rfl, -, -⟩ := byte_at hb hl 0 (by omega)
  obtain ⟨hc0, hz0⟩ := cell_at hb hl 0 (by omega)
  rw [Nat.add_zero] at hc0
  obtain ⟨hc1, hz1⟩ := cell_at hb hl 1 (by omega)
  rw [hk0, show ((77 : Nat) : Int) = 77 from rfl] at hc0
  clear hz0 hk0
  rw [hk1, show ((68 : Nat) : Int) = 68 from rfl] at hc1
  clear hz1 hk1
  clear hb hl
  have h1 : 0 < n := by omega
  have k0 := lit0
  have k1 := lit1
  have HB0 : Hid (Below w.heap.size w w) := Lib.hid (Below.refl _ _)
  go_enter Tryd.func17, Tryd.ntmps17
  go_wp2
  refine wp_loop_rounds 3 ?_
  rw [rounds_succ]
  go_wp2
  go_region
  go_wp2
  rw [rounds_succ]
  go_wp2
  go_region
  go_wp2
  rw [rounds_succ]
  go_wp2
  go_ret2
  exact ⟨rfl, by repeat (first | exact HB0.out | refine Below.drew ?_)⟩
set_option maxHeartbeats 1000000 in
set_option maxRecDepth 20000 in
theorem head_big {w : World} {a : Option Addr} {cap n : Nat} {zs : List Nat} (hb : BytesAt w a zs) (hl : zs.length = n) (h4 : 4 ≤ n) (hk0 : zs.getD 0 0 = 77) (hk1 : zs.getD 1 0 = 68) {s : Nat} (hs : s = zs.getD 2 0 + 256 * zs.getD 3 0) (h5 : 12000 < s) :
    Calls Tryd.prog 17 #[.slice a n cap] w fun e w' => e = .returned (.tuple #[.int .i64 0, .int .i64 2]) ∧ Below w.heap.size w w' := by
  obtain ⟨b, off, rfl, -, -⟩ := byte_at hb hl 0 (by omega)
  obtain ⟨hc0, hz0⟩ := cell_at hb hl 0 (by omega)
  rw [Nat.add_zero] at hc0
  obtain ⟨hc1, hz1⟩ := cell_at hb hl 1 (by omega)
  rw [hk0, show ((77 : Nat) : Int) = 77 from rfl] at hc0
  clear hz0 hk0
  rw [hk1, show ((68 : Nat) : Int) = 68 from rfl] at hc1
  clear hz1 hk1
  have HB := Lib.hid hb
  have HL := Lib.hid hl
  have hs0 : s < 65536 := by have := (cell_at hb hl 2 (by omega)).2; have := (cell_at hb hl 3 (by omega)).2; omega
  have HS : Hid (∀ V, Below w.heap.size w V → Calls Tryd.prog 28 #[.slice (some ⟨b, off, none⟩) n cap, .int .i64 2, .int .i64 2] V fun e w' => e = .returned (.int .u64 (s : Int)) ∧ V = w') := Lib.hid (fun V hV => by
    have h := refget_any (some ⟨b, off, none⟩) cap zs 2 2 V (bytes_below HB.out hV) (by decide) (by rw [HL.out]; omega)
    rw [HL.out, num_two (by rw [HL.out]; exact h4), ← hs] at h
    exact h)
  clear hb hl hs
  have h1 : 0 < n := by omega
  have h2 : 1 < n := by omega
  have h3 : ¬ n < 4 := by omega
  have k0 := lit0
  have k1 := lit1
  have HB0 : Hid (Below w.heap.size w w) := Lib.hid (Below.refl _ _)
  go_enter Tryd.func17, Tryd.ntmps17
  go_wp2
  refine wp_loop_rounds 3 ?_
  rw [rounds_succ]
  go_wp2
  go_region
  go_wp2
  rw [rounds_succ]
  go_wp2
  go_region
  go_wp2
  rw [rounds_succ]
  go_wp2_with (first | (go_at_call 28; (with_reducible refine (HS.out _ (by repeat (first | exact HB0.out | refine Below.drew ?_))).mono ?_); rintro e w' ⟨rfl, rfl⟩))
  go_ret2
  exact ⟨rfl, by repeat (first | exact HB0.out | refine Below.drew ?_)⟩
set_option maxHeartbeats 1000000 in
set_option maxRecDepth 20000 in
theorem head_lack {w : World} {a : Option Addr} {cap n : Nat} {zs : List Nat} (hb : BytesAt w a zs) (hl : zs.length = n) (h4 : 4 ≤ n) (hk0 : zs.getD 0 0 = 77) (hk1 : zs.getD 1 0 = 68) {s : Nat} (hs : s = zs.getD 2 0 + 256 * zs.getD 3 0) (h5 : ¬ 12000 < s) (h6 : n < s + 8) :
    Calls Tryd.prog 17 #[.slice a n cap] w fun e w' => e = .returned (.tuple #[.int .i64 0, .int .i64 17]) ∧ Below w.heap.size w w' := by
  obtain ⟨b, off, rfl, -, -⟩ := byte_at hb hl 0 (by omega)
  obtain ⟨hc0, hz0⟩ := cell_at hb hl 0 (by omega)
  rw [Nat.add_zero] at hc0
  obtain ⟨hc1, hz1⟩ := cell_at hb hl 1 (by omega)
  rw [hk0, show ((77 : Nat) : Int) = 77 from rfl] at hc0
  clear hz0 hk0
  rw [hk1, show ((68 : Nat) : Int) = 68 from rfl] at hc1
  clear hz1 hk1
  have HB := Lib.hid hb
  have HL := Lib.hid hl
  have hs0 : s < 65536 := by have := (cell_at hb hl 2 (by omega)).2; have := (cell_at hb hl 3 (by omega)).2; omega
  have HS : Hid (∀ V, Below w.heap.size w V → Calls Tryd.prog 28 #[.slice (some ⟨b, off, none⟩) n cap, .int .i64 2, .int .i64 2] V fun e w' => e = .returned (.int .u64 (s : Int)) ∧ V = w') := Lib.hid (fun V hV => by
    have h := refget_any (some ⟨b, off, none⟩) cap zs 2 2 V (bytes_below HB.out hV) (by decide) (by rw [HL.out]; omega)
    rw [HL.out, num_two (by rw [HL.out]; exact h4), ← hs] at h
    exact h)
  clear hb hl hs
  have h1 : 0 < n := by omega
  have h2 : 1 < n := by omega
  have h3 : ¬ n < 4 := by omega
  have k0 := lit0
  have k1 := lit1
  have HB0 : Hid (Below w.heap.size w w) := Lib.hid (Below.refl _ _)
  go_enter Tryd.func17, Tryd.ntmps17
  go_wp2
  refine wp_loop_rounds 3 ?_
  rw [rounds_succ]
  go_wp2
  go_region
  go_wp2
  rw [rounds_succ]
  go_wp2
  go_region
  go_wp2
  rw [rounds_succ]
  go_wp2_with (first | (go_at_call 28; (with_reducible refine (HS.out _ (by repeat (first | exact HB0.out | refine Below.drew ?_))).mono ?_); rintro e w' ⟨rfl, rfl⟩))
  go_ret2
  exact ⟨rfl, by repeat (first | exact HB0.out | refine Below.drew ?_)⟩
set_option maxHeartbeats 1000000 in
set_option maxRecDepth 20000 in
theorem head_sum {w : World} {a : Option Addr} {cap n : Nat} {zs : List Nat} (hb : BytesAt w a zs) (hl : zs.length = n) (h4 : 4 ≤ n) (hk0 : zs.getD 0 0 = 77) (hk1 : zs.getD 1 0 = 68) {s : Nat} (hs : s = zs.getD 2 0 + 256 * zs.getD 3 0) (hcap : n ≤ cap) (h5 : ¬ 12000 < s) (h6 : ¬ n < s + 8) (h7 : ¬ num ((zs.drop (s + 4)).take 4) = more 0 (zs.take (s + 4))) :
    Calls Tryd.prog 17 #[.slice a n cap] w fun e w' => e = .returned (.tuple #[.int .i64 ((s : Int) + 8), .int .i64 8]) ∧ Below w.heap.size w w' := by
  obtain ⟨b, off, rfl, -, -⟩ := byte_at hb hl 0 (by omega)
  obtain ⟨hc0, hz0⟩ := cell_at hb hl 0 (by omega)
  rw [Nat.add_zero] at hc0
  obtain ⟨hc1, hz1⟩ := cell_at hb hl 1 (by omega)
  rw [hk0, show ((77 : Nat) : Int) = 77 from rfl] at hc0
  clear hz0 hk0
  rw [hk1, show ((68 : Nat) : Int) = 68 from rfl] at hc1
  clear hz1 hk1
  have HB := Lib.hid hb
  have HL := Lib.hid hl
  have hs0 : s < 65536 := by have := (cell_at hb hl 2 (by omega)).2; have := (cell_at hb hl 3 (by omega)).2; omega
  have HS : Hid (∀ V, Below w.heap.size w V → Calls Tryd.prog 28 #[.slice (some ⟨b, off, none⟩) n cap, .int .i64 2, .int .i64 2] V fun e w' => e = .returned (.int .u64 (s : Int)) ∧ V = w') := Lib.hid (fun V hV => by
    have h := refget_any (some ⟨b, off, none⟩) cap zs 2 2 V (bytes_below HB.out hV) (by decide) (by rw [HL.out]; omega)
    rw [HL.out, num_two (by rw [HL.out]; exact h4), ← hs] at h
    exact h)
  clear hb hl hs
  have h1 : 0 < n := by omega
  have h2 : 1 < n := by omega
  have h3 : ¬ n < 4 := by omega
  have k0 := lit0
  have k1 := lit1
  have HB0 : Hid (Below w.heap.size w w) := Lib.hid (Below.refl _ _)
  obtain ⟨t, ht⟩ : ∃ t, t = num ((zs.drop (s + 4)).take 4) := ⟨_, rfl⟩
  obtain ⟨m, hmo⟩ : ∃ m, m = more 0 (zs.take (s + 4)) := ⟨_, rfl⟩
  rw [← ht, ← hmo] at h7
  have HG : Hid (∀ V, Below w.heap.size w V → Calls Tryd.prog 28 #[.slice (some ⟨b, off, none⟩) n cap, .int .i64 ((s : Int) + 4), .int .i64 4] V fun e w' => e = .returned (.int .u64 (t : Int)) ∧ V = w') := Lib.hid (fun V hV => by
    have h := refget_any (some ⟨b, off, none⟩) cap zs (s + 4) 4 V (bytes_below HB.out hV) (by decide) (by rw [HL.out]; omega)
    rw [HL.out, ← ht] at h
    exact h)
  have HO : Hid (∀ V, Below w.heap.size w V → Calls Tryd.prog 29 #[.slice (some ⟨b, off, none⟩) (s + 4) cap] V fun e w' => e = .returned (.int .u32 (m : Int)) ∧ V = w') := Lib.hid (fun V hV => by
    have h := refof_any (some ⟨b, off, none⟩) cap (zs.take (s + 4)) V (bytes_prefix (m := zs.drop (s + 4)) (by rw [List.take_append_drop]; exact bytes_below HB.out hV))
    rw [show (zs.take (s + 4)).length = s + 4 by rw [List.length_take, HL.out]; omega, ← hmo] at h
    exact h)
  have hm4 : m < 4294967296 := by rw [hmo]; exact more_lt (by decide) _ (fun c hc => HB.out.1 c (List.mem_of_mem_take hc))
  have hc4 : s + 4 ≤ cap := by omega
  clear ht hmo
  have h8 : ¬ m = t := fun h => h7 h.symm
  go_enter Tryd.func17, Tryd.ntmps17
  go_wp2
  refine wp_loop_rounds 3 ?_
  rw [rounds_succ]
  go_wp2
  go_region
  go_wp2
  rw [rounds_succ]
  go_wp2
  go_region
  go_wp2
  rw [rounds_succ]
  go_wp2_with (first | (go_at_call 28; (with_reducible refine (HG.out _ (by repeat (first | exact HB0.out | refine Below.drew ?_))).mono ?_); rintro e w' ⟨rfl, rfl⟩) | (go_at_call 29; (with_reducible refine (HO.out _ (by repeat (first | exact HB0.out | refine Below.drew ?_))).mono ?_); rintro e w' ⟨rfl, rfl⟩) | (go_at_call 28; (with_reducible refine (HS.out _ (by repeat (first | exact HB0.out | refine Below.drew ?_))).mono ?_); rintro e w' ⟨rfl, rfl⟩))
  go_ret2
  exact ⟨rfl, by repeat (first | exact HB0.out | refine Below.drew ?_)⟩
set_option maxHeartbeats 1000000 in
set_option maxRecDepth 20000 in
theorem head_good {w : World} {a : Option Addr} {cap n : Nat} {zs : List Nat} (hb : BytesAt w a zs) (hl : zs.length = n) (h4 : 4 ≤ n) (hk0 : zs.getD 0 0 = 77) (hk1 : zs.getD 1 0 = 68) {s : Nat} (hs : s = zs.getD 2 0 + 256 * zs.getD 3 0) (hcap : n ≤ cap) (h5 : ¬ 12000 < s) (h6 : ¬ n < s + 8) (h7 : num ((zs.drop (s + 4)).take 4) = more 0 (zs.take (s + 4))) :
    Calls Tryd.prog 17 #[.slice a n cap] w fun e w' => e = .returned (.tuple #[.int .i64 ((s : Int) + 8), .int .i64 0]) ∧ Below w.heap.size w w' := by
  obtain ⟨b, off, rfl, -, -⟩ := byte_at hb hl 0 (by omega)
  obtain ⟨hc0, hz0⟩ := cell_at hb hl 0 (by omega)
  rw [Nat.add_zero] at hc0
  obtain ⟨hc1, hz1⟩ := cell_at hb hl 1 (by omega)
  rw [hk0, show ((77 : Nat) : Int) = 77 from rfl] at hc0
  clear hz0 hk0
  rw [hk1, show ((68 : Nat) : Int) = 68 from rfl] at hc1
  clear hz1 hk1
  have HB := Lib.hid hb
  have HL := Lib.hid hl
  have hs0 : s < 65536 := by have := (cell_at hb hl 2 (by omega)).2; have := (cell_at hb hl 3 (by omega)).2; omega
  have HS : Hid (∀ V, Below w.heap.size w V → Calls Tryd.prog 28 #[.slice (some ⟨b, off, none⟩) n cap, .int .i64 2, .int .i64 2] V fun e w' => e = .returned (.int .u64 (s : Int)) ∧ V = w') := Lib.hid (fun V hV => by
    have h := refget_any (some ⟨b, off, none⟩) cap zs 2 2 V (bytes_below HB.out hV) (by decide) (by rw [HL.out]; omega)
    rw [HL.out, num_two (by rw [HL.out]; exact h4), ← hs] at h
    exact h)
  clear hb hl hs
  have h1 : 0 < n := by omega
  have h2 : 1 < n := by omega
  have h3 : ¬ n < 4 := by omega
  have k0 := lit0
  have k1 := lit1
  have HB0 : Hid (Below w.heap.size w w) := Lib.hid (Below.refl _ _)
  obtain ⟨t, ht⟩ : ∃ t, t = num ((zs.drop (s + 4)).take 4) := ⟨_, rfl⟩
  obtain ⟨m, hmo⟩ : ∃ m, m = more 0 (zs.take (s + 4)) := ⟨_, rfl⟩
  rw [← ht, ← hmo] at h7
  have HG : Hid (∀ V, Below w.heap.size w V → Calls Tryd.prog 28 #[.slice (some ⟨b, off, none⟩) n cap, .int .i64 ((s : Int) + 4), .int .i64 4] V fun e w' => e = .returned (.int .u64 (t : Int)) ∧ V = w') := Lib.hid (fun V hV => by
    have h := refget_any (some ⟨b, off, none⟩) cap zs (s + 4) 4 V (bytes_below HB.out hV) (by decide) (by rw [HL.out]; omega)
    rw [HL.out, ← ht] at h
    exact h)
  have HO : Hid (∀ V, Below w.heap.size w V → Calls Tryd.prog 29 #[.slice (some ⟨b, off, none⟩) (s + 4) cap] V fun e w' => e = .returned (.int .u32 (m : Int)) ∧ V = w') := Lib.hid (fun V hV => by
    have h := refof_any (some ⟨b, off, none⟩) cap (zs.take (s + 4)) V (bytes_prefix (m := zs.drop (s + 4)) (by rw [List.take_append_drop]; exact bytes_below HB.out hV))
    rw [show (zs.take (s + 4)).length = s + 4 by rw [List.length_take, HL.out]; omega, ← hmo] at h
    exact h)
  have hm4 : m < 4294967296 := by rw [hmo]; exact more_lt (by decide) _ (fun c hc => HB.out.1 c (List.mem_of_mem_take hc))
  have hc4 : s + 4 ≤ cap := by omega
  clear ht hmo
  subst h7
  go_enter Tryd.func17, Tryd.ntmps17
  go_wp2
  refine wp_loop_rounds 3 ?_
  rw [rounds_succ]
  go_wp2
  go_region
  go_wp2
  rw [rounds_succ]
  go_wp2
  go_region
  go_wp2
  rw [rounds_succ]
  go_wp2_with (first | (go_at_call 28; (with_reducible refine (HG.out _ (by repeat (first | exact HB0.out | refine Below.drew ?_))).mono ?_); rintro e w' ⟨rfl, rfl⟩) | (go_at_call 29; (with_reducible refine (HO.out _ (by repeat (first | exact HB0.out | refine Below.drew ?_))).mono ?_); rintro e w' ⟨rfl, rfl⟩) | (go_at_call 28; (with_reducible refine (HS.out _ (by repeat (first | exact HB0.out | refine Below.drew ?_))).mono ?_); rintro e w' ⟨rfl, rfl⟩))
  go_ret2
  exact ⟨rfl, by repeat (first | exact HB0.out | refine Below.drew ?_)⟩
/-- What Head tells. -/
def HeadOut (w : World) (zs : List Nat) (e : Ending) (w' : World) : Prop := e = .returned (.tuple #[.int .i64 ((headOf zs).1 : Int), .int .i64 ((headOf zs).2 : Int)]) ∧ Below w.heap.size w w'
theorem head_any {w : World} {a : Option Addr} {cap n : Nat} {zs : List Nat} (hb : BytesAt w a zs) (hl : zs.length = n) (hcap : n ≤ cap) :
    Calls Tryd.prog 17 #[.slice a n cap] w (HeadOut w zs) := by
  have out : ∀ k d : Nat, headOf zs = (k, d) → (Calls Tryd.prog 17 #[.slice a n cap] w fun e w' => e = .returned (.tuple #[.int .i64 (k : Int), .int .i64 (d : Int)]) ∧ Below w.heap.size w w') → Calls Tryd.prog 17 #[.slice a n cap] w (HeadOut w zs) := fun k d h hc => by
    unfold HeadOut
    rw [h]
    exact hc
  by_cases c0 : 0 < n ∧ ¬ zs.getD 0 0 = 77
  · exact out 0 4 (by rw [headOf, if_pos (.inl ⟨by omega, c0.2⟩)]) (head_bad0 hb hl c0.1 c0.2)
  by_cases c1 : 1 < n ∧ ¬ zs.getD 1 0 = 68
  · exact out 0 4 (by rw [headOf, if_pos (.inr ⟨by omega, c1.2⟩)]) (head_bad1 hb hl c1.1 (by by_cases h : zs.getD 0 0 = 77; exact h; exact absurd ⟨by omega, h⟩ c0) c1.2)
  have hno : ¬ ((0 < zs.length ∧ ¬ zs.getD 0 0 = 77) ∨ (1 < zs.length ∧ ¬ zs.getD 1 0 = 68)) := by
    rw [hl]
    rintro (h | h)
    · exact c0 h
    · exact c1 h
  have k0 : 0 < n → zs.getD 0 0 = 77 := fun h => by by_cases h' : zs.getD 0 0 = 77; exact h'; exact absurd ⟨h, h'⟩ c0
  have k1 : 1 < n → zs.getD 1 0 = 68 := fun h => by by_cases h' : zs.getD 1 0 = 68; exact h'; exact absurd ⟨h, h'⟩ c1
  by_cases c4 : n < 4
  · refine out 0 17 (by rw [headOf, if_neg hno, if_pos (by omega)]) ?_
    by_cases d0 : n = 0
    · exact head_none d0
    by_cases d1 : n = 1
    · exact head_one hb hl d1 (k0 (by omega))
    · exact head_few hb hl (by omega) c4 (k0 (by omega)) (k1 (by omega))
  have q0 := k0 (by omega)
  have q1 := k1 (by omega)
  obtain ⟨s, hs⟩ : ∃ s, s = zs.getD 2 0 + 256 * zs.getD 3 0 := ⟨_, rfl⟩
  have hh : headOf zs = if 12000 < s then (0, 2) else if n < 4 + s + 4 then (0, 17) else if num ((zs.drop (s + 4)).take 4) = more 0 (zs.take (s + 4)) then (s + 8, 0) else (s + 8, 8) := by
    rw [headOf, if_neg hno, if_neg (by omega), ← hs, hl, Nat.add_comm 4 s]
  by_cases c5 : 12000 < s
  · exact out 0 2 (by rw [hh, if_pos c5]) (head_big hb hl (by omega) q0 q1 hs c5)
  by_cases c6 : n < s + 8
  · exact out 0 17 (by rw [hh, if_neg c5, if_pos (by omega)]) (head_lack hb hl (by omega) q0 q1 hs c5 c6)
  by_cases c7 : num ((zs.drop (s + 4)).take 4) = more 0 (zs.take (s + 4))
  · exact out (s + 8) 0 (by rw [hh, if_neg c5, if_neg (by omega), if_pos c7]) (head_good hb hl (by omega) q0 q1 hs hcap c5 c6 c7)
  · exact out (s + 8) 8 (by rw [hh, if_neg c5, if_neg (by omega), if_neg c7]) (head_sum hb hl (by omega) q0 q1 hs hcap c5 c6 c7)
end Go.Proofs.YteplapigkofgaaaDoor

/- Whether a number lies within bytes; the number that is read there: contracts. -/
import Derived.Test.YteplapigkofgaaaDoorSumPoly
import Derived.Test.YteplapigkofgaaaDoorWirSlc
namespace Go.Proofs.YteplapigkofgaaaDoor
open Go.ChangeShapes Go.WideShapes Go.ChangeAt Go.RowKit

theorem ret_bool {a b : Bool} (h : a = b) : Ending.returned (.bool a) = .returned (.bool b) := by rw [h]
theorem within_yes (a : Option Addr) (len cap : Nat) (p size : Int) (w : World) (hm : len ≤ maxLen) (hs : size = 1 ∨ size = 2 ∨ size = 4 ∨ size = 8) (h0 : 0 ≤ p) (h1 : p + size ≤ len) :
    Calls Tryd.prog 35 #[.slice a len cap, .int .i64 p, .int .i64 size] w fun e w' => e = .returned (.bool true) ∧ w = w' := by
  unfold maxLen at hm
  rcases hs with rfl | rfl | rfl | rfl
  all_goals
    go_enter Tryd.func35, Tryd.ntmps35
    go_wp2
    go_ret
    exact ⟨ret_bool (decide_eq_true (by omega)), rfl⟩
theorem within_no (a : Option Addr) (len cap : Nat) (p size : Int) (w : World) (hm : len ≤ maxLen) (hs : size = 1 ∨ size = 2 ∨ size = 4 ∨ size = 8) (h1 : ¬ (0 ≤ p ∧ p + size ≤ len)) :
    Calls Tryd.prog 35 #[.slice a len cap, .int .i64 p, .int .i64 size] w fun e w' => e = .returned (.bool false) ∧ w = w' := by
  unfold maxLen at hm
  by_cases h0 : 0 ≤ p
  all_goals
    rcases hs with rfl | rfl | rfl | rfl
    all_goals
      go_enter Tryd.func35, Tryd.ntmps35
      go_wp2
      go_ret
      exact ⟨by first | exact rfl | exact ret_bool (decide_eq_false (by omega)), rfl⟩
theorem within_none (a : Option Addr) (len cap : Nat) (p size : Int) (w : World) (n1 : size ≠ 1) (n2 : size ≠ 2) (n4 : size ≠ 4) (n8 : size ≠ 8) :
    Calls Tryd.prog 35 #[.slice a len cap, .int .i64 p, .int .i64 size] w fun e w' => e = .returned (.bool false) ∧ w = w' := by
  have m1 : (size != 1) = true := by simpa using n1
  have m2 : (size != 2) = true := by simpa using n2
  have m4 : (size != 4) = true := by simpa using n4
  have m8 : (size != 8) = true := by simpa using n8
  clear n1 n2 n4 n8
  go_enter Tryd.func35, Tryd.ntmps35
  go_wp2
  go_ret
  exact ⟨rfl, rfl⟩

theorem ret_u64 {a b : Int} (h : a = b) : Ending.returned (.tuple #[.int .u64 a, .int .i64 0]) = .returned (.tuple #[.int .u64 b, .int .i64 0]) := by rw [h]
set_option maxHeartbeats 400000 in
theorem get_yes (a : Option Addr) (cap : Nat) (zs : List Nat) (q : Nat) (size : Int) (w : World) (hb : BytesAt w a zs)  (hs : size = 1 ∨ size = 2 ∨ size = 4 ∨ size = 8) (h1 : q + size ≤ zs.length) :
    Calls Tryd.prog 21 #[.slice a zs.length cap, .int .i64 (q : Int), .int .i64 size] w fun e w' => e = .returned (.tuple #[.int .u64 (num ((zs.drop q).take size.toNat) : Int), .int .i64 0]) ∧ w = w' := by
  obtain ⟨hz, hm, hc⟩ := hb
  have hm' := hm
  unfold maxLen at hm
  have HC := Lib.hid hc; clear hc
  have HZ := Lib.hid hz; clear hz
  go_enter Tryd.func21, Tryd.ntmps21
  go_wp2_with (go_at_call 35; refine (within_yes _ _ _ _ _ _ hm' hs (by omega) h1).mono ?_; rintro e w' ⟨rfl, rfl⟩)
  go_loop [8, 9, 16] (fun n _ i => ∃ (r k : Nat), (k : Int) ≤ size ∧ i = .int .i64 k ∧ n = .int .u64 r ∧ Hid (r = num ((zs.drop q).take k))) (fun _ _ i => (size - (intOf i)).toNat)
  case atStart => exact ⟨0, 0, by omega, rfl, rfl, Lib.hid rfl⟩
  case round =>
    obtain ⟨r, k, hk, rfl, rfl, hr⟩ := hrel
    by_cases hlt : (k : Int) < size
    · have hk8 : k < 8 := by omega
      obtain ⟨b, off, rfl, hcell⟩ := HC.out (q + k) (by omega)
      obtain ⟨c, hcd⟩ : ∃ c, c = zs[q + k]'(by omega) := ⟨_, rfl⟩
      rw [← hcd] at hcell
      have hc0 : c < 256 := by rw [hcd]; exact HZ.out _ (List.getElem_mem _)
      have hr0 : r < 2 ^ (8 * k) := by
        rw [hr.out]
        have := num_lt ((zs.drop q).take k) (fun c hc => HZ.out c (List.mem_of_mem_drop (List.mem_of_mem_take hc)))
        rwa [List.length_take, Nat.min_eq_left (by simp; omega)] at this
      have HO := Lib.hid (orshl hr0 hc0 hk8)
      have HN : Hid (r + c * 2 ^ (8 * k) = num ((zs.drop q).take (k + 1))) := by
        refine Lib.hid ?_
        rw [num_take_succ _ _ (by simp; omega), ← hr.out, List.getElem_drop, ← hcd]
      clear hcd hs hr0
      go_wp2
      go_round
      case rel => exact ⟨_, k + 1, by omega, by go_num, by rw [HO.out], HN⟩
      case measure => simp [intOf]; omega
    · have HK : Hid (k = size.toNat) := Lib.hid (by omega)
      clear hs
      go_wp2
      go_ret2
      exact ⟨ret_u64 (by rw [hr.out, HK.out]), rfl⟩
theorem get_no (a : Option Addr) (len cap : Nat) (p size : Int) (w : World) (hm : len ≤ maxLen) (h : ¬ ((size = 1 ∨ size = 2 ∨ size = 4 ∨ size = 8) ∧ 0 ≤ p ∧ p + size ≤ len)) :
    Calls Tryd.prog 21 #[.slice a len cap, .int .i64 p, .int .i64 size] w fun e w' => e = .returned (.tuple #[.int .u64 0, .int .i64 1]) ∧ w = w' := by
  have H : Calls Tryd.prog 35 #[.slice a len cap, .int .i64 p, .int .i64 size] w fun e w' => e = .returned (.bool false) ∧ w = w' := by
    by_cases hs : size = 1 ∨ size = 2 ∨ size = 4 ∨ size = 8
    · exact within_no a len cap p size w hm hs (fun h' => h ⟨hs, h'⟩)
    · exact within_none a len cap p size w (by omega) (by omega) (by omega) (by omega)
  clear h
  go_enter Tryd.func21, Tryd.ntmps21
  go_wp2_with (go_at_call 35; refine H.mono ?_; rintro e w' ⟨rfl, rfl⟩)
  go_ret2
  exact ⟨rfl, rfl⟩
theorem bytesOf_succ (n k : Nat) : bytesOf n (k + 1) = bytesOf n k ++ [n / 2 ^ (8 * k) % 256] := by simp [bytesOf, List.range_succ]
theorem bytesOf_length (n k : Nat) : (bytesOf n k).length = k := by simp [bytesOf]
theorem shr_cast (n k : Nat) : (n : Int) / 2 ^ (8 * k) % 256 = ((n / 2 ^ (8 * k) % 256 : Nat) : Int) := by rw [Int.natCast_emod, Int.natCast_ediv, Int.natCast_pow]; rfl
theorem num_drop (l : List Nat) (k : Nat) (h : k < l.length) : num (l.drop k) = l[k] + 256 * num (l.drop (k + 1)) := by
  rw [List.drop_eq_getElem_cons h]; rfl
theorem orshl8 {r c : Nat} (hr : r < 2 ^ 56) (hc : c < 256) : bits .or .u64 ((r * 256 : Nat) : Int) (c : Int) = ((c + 256 * r : Nat) : Int) := by
  rw [u64_or_nat _ _ (by omega) (by omega)]
  congr 1
  have := Nat.shiftLeft_add_eq_or_of_lt (b := c) (i := 8) (by omega) r
  rw [Nat.shiftLeft_eq, show (2 : Nat) ^ 8 = 256 from rfl] at this
  omega
set_option maxHeartbeats 400000 in
theorem refget_any (a : Option Addr) (cap : Nat) (zs : List Nat) (q S : Nat) (w : World) (hb : BytesAt w a zs) (hs : 1 ≤ S ∧ S ≤ 8) (h1 : q + S ≤ zs.length) :
    Calls Tryd.prog 28 #[.slice a zs.length cap, .int .i64 (q : Int), .int .i64 (S : Int)] w fun e w' => e = .returned (.int .u64 (num ((zs.drop q).take S) : Int)) ∧ w = w' := by
  obtain ⟨hz, hm, hc⟩ := hb
  unfold maxLen at hm
  have HC := Lib.hid hc; clear hc
  have HZ := Lib.hid hz; clear hz
  obtain ⟨l, hl⟩ : ∃ l, l = (zs.drop q).take S := ⟨_, rfl⟩
  have hll : l.length = S := by rw [hl, List.length_take, List.length_drop]; omega
  have HL := Lib.hid hl
  have HLL := Lib.hid hll; clear hll
  have HN : Hid (num ((zs.drop q).take S) = num l) := Lib.hid (by rw [hl])
  clear hl
  go_enter Tryd.func28, Tryd.ntmps28
  go_wp2
  go_loop [7, 8] (fun n i => ∃ (r k : Nat), k ≤ S ∧ i = .int .i64 ((k : Int) - 1) ∧ n = .int .u64 (r : Int) ∧ Hid (r = num (l.drop k))) (fun _ i => ((intOf i) + 1).toNat)
  case atStart => exact ⟨0, S, by omega, rfl, rfl, Lib.hid (by rw [List.drop_of_length_le (by rw [HLL.out]; omega)]; rfl)⟩
  case round =>
    obtain ⟨r, k, hk, rfl, rfl, hr⟩ := hrel
    by_cases hlt : 1 ≤ k
    · obtain ⟨j, rfl⟩ : ∃ j, k = j + 1 := ⟨k - 1, by omega⟩
      obtain ⟨b, off, rfl, hcell⟩ := HC.out (q + j) (by omega)
      obtain ⟨c, hcd⟩ : ∃ c, c = zs[q + j]'(by omega) := ⟨_, rfl⟩
      rw [← hcd] at hcell
      have hc0 : c < 256 := by rw [hcd]; exact HZ.out _ (List.getElem_mem _)
      have hlj : j < l.length := by rw [HLL.out]; omega
      have hcl : l[j] = c := by
        have := HL.out
        subst this
        rw [hcd]; simp
      have hr0 : r < 72057594037927936 := by
        rw [hr.out]
        have h0 := num_lt (l.drop (j + 1)) (fun c hc => HZ.out c (by
          have := List.mem_of_mem_drop hc
          rw [HL.out] at this
          exact List.mem_of_mem_drop (List.mem_of_mem_take this)))
        have h2 : 2 ^ (8 * (l.drop (j + 1)).length) ≤ 2 ^ 56 := Nat.pow_le_pow_right (by omega) (by rw [List.length_drop, HLL.out]; omega)
        omega
      have e1 := orshl8 hr0 hc0
      have HX : Hid (c + 256 * r = num (l.drop j)) := Lib.hid (by rw [num_drop l j hlj, hcl, hr.out])
      have HE := Lib.hid e1
      clear hcl hlj hcd e1
      have e2 : (((j + 1 : Nat) : Int) - 1) = (j : Int) := by omega
      rw [e2]
      clear e2
      go_wp2
      go_round
      case rel => 
        refine ⟨c + 256 * r, j, by omega, rfl, ?_, HX⟩
        rw [← HE.out, Int.natCast_mul]; rfl
      case measure => simp [intOf]
    · obtain rfl : k = 0 := by omega
      have HK : Hid (r = num l) := Lib.hid (by have := hr.out; rwa [List.drop_zero] at this)
      go_wp2
      go_ret
      exact ⟨ret_int (by rw [HN.out, ← HK.out]), rfl⟩
theorem cell_one_new (w : World) (v : Value) (t : TypeId) : ∀ (j : Nat) (u : Value), [v][j]? = some u → (w.alloc (.cells #[v] t)).cell? ((⟨w.heap.size, 0, none⟩ : Addr).add j) = some u := by
  intro j u hu
  have hadd : (⟨w.heap.size, 0, none⟩ : Addr).add j = ⟨w.heap.size, j, none⟩ := by unfold Addr.add; split <;> simp_all
  rw [hadd, cell_of_row _ w.heap.size j _ _ _ (cells_new w t #[v])]
  rw [← hu]
  simp
/-- What the document's Put leaves. -/
def PutOut (w : World) (l : List Nat) (e : Ending) (w' : World) : Prop :=
  ∃ g c, e = .returned (.slice (some ⟨g, 0, none⟩) l.length c) ∧ w'.ownsRow w.heap.size 5 1 (.slice (some ⟨g, 0, none⟩) l.length c) l.length (u8s l) ∧ Below w.heap.size w w'
theorem rel_put {B k n : Nat} {x : Int} {v' : Value} {w1 : World} (hx : x = ((n / 2 ^ (8 * k) % 256 : Nat) : Int)) (h : w1.ownsRow B 5 1 v' (k + 1) (u8s (bytesOf n k) ++ [.int .u8 x])) : w1.ownsRow B 5 1 v' (k + 1) (u8s (bytesOf n (k + 1))) := by
  rw [bytesOf_succ, show u8s (bytesOf n k ++ [n / 2 ^ (8 * k) % 256]) = u8s (bytesOf n k) ++ [.int .u8 x] from by rw [hx]; simp [u8s]]
  exact h
theorem and1 {x : Nat} (h : x < 4294967296) : bits .and .u32 (x : Int) 1 = ((x % 2 : Nat) : Int) := by
  have := u32_and_nat x 1 h (by omega)
  rw [show ((1 : Nat) : Int) = 1 from rfl] at this
  rw [this, show (1 : Nat) = 2 ^ 1 - 1 from rfl, Nat.and_two_pow_sub_one_eq_mod]
theorem f_odd {x : Nat} (h : x % 2 = 1) : f x = x / 2 ^^^ 3988292384 := by
  rw [f, shr1, if_pos (by rw [Nat.testBit_zero]; simp [h])]
  rfl
theorem f_even {x : Nat} (h : x % 2 = 0) : f x = x / 2 := by
  rw [f, shr1, if_neg (by rw [Nat.testBit_zero]; simp [h]), Nat.xor_zero]
theorem fk_succ (k x : Nat) : fk (k + 1) x = f (fk k x) := fk_add k 1 x
theorem x32p {a : Nat} (h : a < 4294967296) : bits .xor .u32 ((a : Int) / 2) 3988292384 = ((a / 2 ^^^ 3988292384 : Nat) : Int) := by
  have := u32_xor_nat (a / 2) 3988292384 (by omega) (by omega)
  rwa [Int.natCast_ediv] at this
set_option maxHeartbeats 1000000 in
theorem refmore_any (s : Nat) (hs : s < 4294967296) (a : Option Addr) (cap : Nat) (zs : List Nat) (w : World) (hb : BytesAt w a zs) :
    Calls Tryd.prog 39 #[.int .u32 (s : Int), .slice a zs.length cap] w fun e w' => e = .returned (.int .u32 (more s zs : Int)) ∧ w = w' := by
  obtain ⟨hz, hm, hc⟩ := hb
  unfold maxLen at hm
  have E0 : bits .xor .u32 (s : Int) 4294967295 = ((s ^^^ 4294967295 : Nat) : Int) := x32 hs (by decide)
  obtain ⟨s0, hs0⟩ : ∃ s0, s0 = s ^^^ 4294967295 := ⟨_, rfl⟩
  have hs1 : s0 < 4294967296 := by rw [hs0]; exact xor_lt' hs (by decide)
  rw [← hs0] at E0
  have HM : Hid (more s zs = crc s0 zs ^^^ 4294967295) := by rw [hs0]; exact Lib.hid rfl
  have HS := Lib.hid hs0; clear hs0
  have HC := Lib.hid hc; clear hc
  have HZ := Lib.hid hz; clear hz
  go_enter Tryd.func39, Tryd.ntmps39
  go_wp2
  go_loop [5, 6, 7] (fun v i _ => ∃ (r k : Nat), k ≤ zs.length ∧ r < 4294967296 ∧ i = .int .i64 k ∧ v = .int .u32 r ∧ Hid (r = crc s0 (zs.take k))) (fun _ i _ => zs.length - (intOf i).toNat)
  case atStart => exact ⟨s0, 0, by omega, hs1, rfl, rfl, Lib.hid rfl⟩
  case round =>
    obtain ⟨r, k, hk, hr, rfl, rfl, HR⟩ := hrel
    by_cases hlt : k < zs.length
    · obtain ⟨b, off, rfl, hcell⟩ := HC.out k hlt
      obtain ⟨c, hcd⟩ : ∃ c, c = zs[k] := ⟨_, rfl⟩
      have hc0 : c < 256 := by rw [hcd]; exact HZ.out _ (List.getElem_mem _)
      rw [← hcd] at hcell
      have HN : Hid (stp r c = crc s0 (zs.take (k + 1))) := Lib.hid (by rw [crc_take_succ _ _ hlt, ← HR.out, ← hcd])
      have e1 : bits .xor .u32 (r : Int) (c : Int) = ((r ^^^ c : Nat) : Int) := x32 hr (by omega)
      obtain ⟨x, hx⟩ : ∃ x, x = r ^^^ c := ⟨_, rfl⟩
      have hx1 : x < 4294967296 := by rw [hx]; exact xor_lt' hr (by omega)
      rw [← hx] at e1
      have HF : Hid (fk 8 x = stp r c) := Lib.hid (by rw [hx, stp_fk])
      clear hcd hx
      go_wp2
      go_loop [5, 7] (fun v j => ∃ (y t : Nat), t ≤ 8 ∧ y < 4294967296 ∧ j = .int .i64 t ∧ v = .int .u32 y ∧ Hid (y = fk t x)) (fun _ j => 8 - (intOf j).toNat)
      case atStart => exact ⟨x, 0, by omega, hx1, rfl, rfl, Lib.hid rfl⟩
      case round =>
        obtain ⟨y, t, ht, hy, rfl, rfl, HY⟩ := hrel
        by_cases htl : t < 8
        · have e2 := and1 hy
          have HS1 : Hid (f y = fk (t + 1) x) := Lib.hid (by rw [fk_succ, ← HY.out])
          have HYL : Hid (f y < 4294967296) := Lib.hid (f_lt hy)
          by_cases hod : y % 2 = 1
          · have HO := Lib.hid (f_odd hod)
            have e3 := x32p hy
            obtain ⟨u, hu⟩ : ∃ u, u = y / 2 ^^^ 3988292384 := ⟨_, rfl⟩
            have hu1 : u < 4294967296 := by rw [hu, ← HO.out]; exact HYL.out
            have HU : Hid (u = fk (t + 1) x) := Lib.hid (by rw [hu, ← HO.out]; exact HS1.out)
            rw [← hu] at e3
            rw [hod] at e2
            clear hu
            go_wp2
            go_round
            case rel => exact ⟨u, t + 1, by omega, hu1, by go_num, rfl, HU⟩
            case measure => simp [intOf]; omega
          · have hev : y % 2 = 0 := by omega
            have HO := Lib.hid (f_even hev)
            have HU : Hid (y / 2 = fk (t + 1) x) := Lib.hid (by rw [← HO.out]; exact HS1.out)
            rw [hev] at e2
            go_wp2
            go_round
            case rel => exact ⟨y / 2, t + 1, by omega, by omega, by go_num, by go_num, HU⟩
            case measure => simp [intOf]; omega
        · obtain rfl : t = 8 := by omega
          have HU : Hid (y = crc s0 (zs.take (k + 1))) := Lib.hid (by rw [HY.out, HF.out, HN.out])
          go_wp2
          go_round
          case rel => exact ⟨y, k + 1, by omega, hy, by go_num, rfl, HU⟩
          case measure => simp [intOf]; omega
    · have HK : k = zs.length := by omega
      have HE : Hid (bits .xor .u32 (r : Int) 4294967295 = (more s zs : Int)) := by
        refine Lib.hid ?_
        rw [show bits .xor .u32 (r : Int) 4294967295 = ((r ^^^ 4294967295 : Nat) : Int) from x32 hr (by decide), HM.out, HR.out, HK, List.take_length]
      clear HK
      have HE' := HE.out
      go_wp2
      go_ret
      exact ⟨rfl, rfl⟩
theorem refof_any (a : Option Addr) (cap : Nat) (zs : List Nat) (w : World) (hb : BytesAt w a zs) :
    Calls Tryd.prog 29 #[.slice a zs.length cap] w fun e w' => e = .returned (.int .u32 (more 0 zs : Int)) ∧ w = w' := by
  have HM : Hid (Calls Tryd.prog 39 #[.int .u32 0, .slice a zs.length cap] w fun e w' => e = .returned (.int .u32 (more 0 zs : Int)) ∧ w = w') := Lib.hid (refmore_any 0 (by decide) a cap zs w hb)
  clear hb
  go_enter Tryd.func29, Tryd.ntmps29
  go_wp2_with (go_at_call 39; refine HM.out.mono ?_; rintro e w' ⟨rfl, rfl⟩)
  go_ret
  exact ⟨rfl, rfl⟩
end Go.Proofs.YteplapigkofgaaaDoor

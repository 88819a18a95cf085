/- The document's own number out of bytes, and its bytes: contracts. -/
import Derived.Test.YtflepcoiidaekaaDoorSumAwake
namespace Go.Proofs.YtflepcoiidaekaaDoor
open Go.ChangeShapes Go.WideShapes Go.ChangeAt Go.RowKit

theorem ret_int {k : IntKind} {a b : Int} (h : a = b) : Ending.returned (.int k a) = .returned (.int k b) := by rw [h]
theorem num_drop (l : List Nat) (k : Nat) (h : k < l.length) : num (l.drop k) = l[k] + 256 * num (l.drop (k + 1)) := by
  rw [List.drop_eq_getElem_cons h]; rfl
theorem orshl8 {r c : Nat} (hr : r < 2 ^ 56) (hc : c < 256) : bits .or .u64 ((r * 256 : Nat) : Int) (c : Int) = ((c + 256 * r : Nat) : Int) := by
  rw [u64_or_nat _ _ (by omega) (by omega)]
  congr 1
  have := Nat.shiftLeft_add_eq_or_of_lt (b := c) (i := 8) (by omega) r
  rw [Nat.shiftLeft_eq, show (2 : Nat) ^ 8 = 256 from rfl] at this
  omega
set_option maxHeartbeats 400000 in
theorem refget_any (a : Option Addr) (cap : Nat) (zs : List Nat) (q S : Nat) (w : World) (hb : BytesAt w a zs) (hs : 1 ≤ S ∧ S ≤ 8) (h1 : q + S ≤ zs.length) :
    Calls Tryd.prog 13 #[.slice a zs.length cap, .int .i64 (q : Int), .int .i64 (S : Int)] w fun e w' => e = .returned (.int .u64 (num ((zs.drop q).take S) : Int)) ∧ w = w' := by
  obtain ⟨hz, hm, hc⟩ := hb
  unfold maxLen at hm
  have HC := Lib.hid hc; clear hc
  have HZ := Lib.hid hz; clear hz
  obtain ⟨l, hl⟩ : ∃ l, l = (zs.drop q).take S := ⟨_, rfl⟩
  have hll : l.length = S := by rw [hl, List.length_take, List.length_drop]; omega
  have HL := Lib.hid hl
  have HLL := Lib.hid hll; clear hll
  have HN : Hid (num ((zs.drop q).take S) = num l) := Lib.hid (by rw [hl])
  clear hl
  go_enter Tryd.func13, Tryd.ntmps13
  go_wp2
  go_loop [7, 8] (fun n i => ∃ (r k : Nat), k ≤ S ∧ i = .int .i64 ((k : Int) - 1) ∧ n = .int .u64 (r : Int) ∧ Hid (r = num (l.drop k))) (fun _ i => ((intOf i) + 1).toNat)
  case atStart => exact ⟨0, S, by omega, rfl, rfl, Lib.hid (by rw [List.drop_of_length_le (by rw [HLL.out]; omega)]; rfl)⟩
  case round =>
    obtain ⟨r, k, hk, rfl, rfl, hr⟩ := hrel
    by_cases hlt : 1 ≤ k
    · obtain ⟨j, rfl⟩ : ∃ j, k = j + 1 := ⟨k - 1, by omega⟩
      obtain ⟨b, off, rfl, hcell⟩ := HC.out (q + j) (by omega)
      obtain ⟨c, hcd⟩ : ∃ c, c = zs[q + j]'(by omega) := ⟨_, rfl⟩
      rw [← hcd] at hcell
      have hc0 : c < 256 := by rw [hcd]; exact HZ.out _ (List.getElem_mem _)
      have hlj : j < l.length := by rw [HLL.out]; omega
      have hcl : l[j] = c := by
        have := HL.out
        subst this
        rw [hcd]; simp
      have hr0 : r < 72057594037927936 := by
        rw [hr.out]
        have h0 := num_lt (l.drop (j + 1)) (fun c hc => HZ.out c (by
          have := List.mem_of_mem_drop hc
          rw [HL.out] at this
          exact List.mem_of_mem_drop (List.mem_of_mem_take this)))
        have h2 : 2 ^ (8 * (l.drop (j + 1)).length) ≤ 2 ^ 56 := Nat.pow_le_pow_right (by omega) (by rw [List.length_drop, HLL.out]; omega)
        omega
      have e1 := orshl8 hr0 hc0
      have HX : Hid (c + 256 * r = num (l.drop j)) := Lib.hid (by rw [num_drop l j hlj, hcl, hr.out])
      have HE := Lib.hid e1
      clear hcl hlj hcd e1
      have e2 : (((j + 1 : Nat) : Int) - 1) = (j : Int) := by omega
      rw [e2]
      clear e2
      go_wp2
      go_round
      case rel => 
        refine ⟨c + 256 * r, j, by omega, rfl, ?_, HX⟩
        rw [← HE.out, Int.natCast_mul]; rfl
      case measure => simp [intOf]
    · obtain rfl : k = 0 := by omega
      have HK : Hid (r = num l) := Lib.hid (by have := hr.out; rwa [List.drop_zero] at this)
      go_wp2
      go_ret
      exact ⟨ret_int (by rw [HN.out, ← HK.out]), rfl⟩

/-- The bytes of n, the lowest first: k of them. -/
def bytesOf (n k : Nat) : List Nat := (List.range k).map fun j => n / 2 ^ (8 * j) % 256
theorem bytesOf_succ (n k : Nat) : bytesOf n (k + 1) = bytesOf n k ++ [n / 2 ^ (8 * k) % 256] := by simp [bytesOf, List.range_succ]
theorem bytesOf_length (n k : Nat) : (bytesOf n k).length = k := by simp [bytesOf]
/-- What the document's Put leaves. -/
def Bytes (B : Nat) (w : World) (l : List Nat) (e : Ending) (w' : World) : Prop :=
  ∃ g c, e = .returned (.slice (some ⟨g, 0, none⟩) l.length c) ∧ w'.ownsRow B 5 1 (.slice (some ⟨g, 0, none⟩) l.length c) l.length (u8s l) ∧ Below B w w'
theorem rel_put {B k n : Nat} {x : Int} {v' : Value} {w1 : World} (hx : x = ((n / 2 ^ (8 * k) % 256 : Nat) : Int)) (h : w1.ownsRow B 5 1 v' (k + 1) (u8s (bytesOf n k) ++ [.int .u8 x])) : w1.ownsRow B 5 1 v' (k + 1) (u8s (bytesOf n (k + 1))) := by
  rw [bytesOf_succ, show u8s (bytesOf n k ++ [n / 2 ^ (8 * k) % 256]) = u8s (bytesOf n k) ++ [.int .u8 x] from by rw [hx]; simp [u8s]]
  exact h
set_option maxHeartbeats 400000 in
theorem refput_any (n S : Nat) (w : World) (hs : 1 ≤ S ∧ S ≤ 8) :
    Calls Tryd.prog 14 #[.int .u64 (n : Int), .int .i64 (S : Int)] w (Bytes w.heap.size w (bytesOf n S)) := by
  obtain ⟨i0, hi, hz0, hz1, hz2⟩ := info_parts info5
  obtain ⟨B, hB⟩ : ∃ B, B = w.heap.size := ⟨_, rfl⟩
  have HBe := Lib.hid hB; clear hB
  go_enter Tryd.func14, Tryd.ntmps14
  go_wp2
  go_loopw [5, 6] (fun v i wr => ∃ k : Nat, k ≤ S ∧ i = .int .i64 k ∧ Hid (wr.ownsRow B 5 1 v k (u8s (bytesOf n k))) ∧ Hid (Below B w wr)) (fun _ i _ => (S - (intOf i)).toNat)
  case atStart => exact ⟨0, by omega, rfl, Lib.hid (World.ownsRow_nil _ _ _ _), by rw [HBe.out]; exact Lib.hid (Below.refl _ _)⟩
  case round =>
    obtain ⟨k, hk, rfl, HO, HW⟩ := hrel
    by_cases hlt : k < S
    · have HX := Lib.hid (shr_cast n k)
      have hlen : (u8s (bytesOf n k)).length = k := by simp [u8s, bytesOf_length]
      have HL := Lib.hid hlen; clear hlen
      have HSZ := Lib.hid (HW.out.size)
      go_wp2_with (at_builtin; refine wpList_append_own _ rfl _ _ 27 rfl B 5 i0 (.int .u8 0) 1 1 Tryd.underlying27 hi hz0 hz1 hz2 rfl (by decide) _ _ _ rfl (HO.out.alloc _) ⟨wr.heap.size, 0, none⟩ 1 1 [.int .u8 ((n : Int) / 2 ^ (8 * k) % 256)] rfl rfl (cell_one_new _ _ _) ?c2 ?c3 ?c4 ?c5 ?_)
      case c2 => intro u hu; simp at hu; subst hu; rfl
      case c3 => unfold maxLen; omega
      case c4 => omega
      case c5 => have := HSZ.out; have := HBe.out; simp; omega
      · intro v' w1 hown' hgrow _
        have HO' := Lib.hid (rel_put HX.out hown')
        have HW' := Lib.hid (((HW.out.alloc (by have := HSZ.out; have := HBe.out; omega) _).grown hgrow (by have := HSZ.out; have := HBe.out; simp; omega) (fun k hk => (HO.out.lt k hk).1)))
        clear hown' hgrow
        go_wp2
        go_roundw
        case rel => exact ⟨k + 1, by omega, by go_num, HO', HW'⟩
        case measure => simp [intOf]; omega
    · obtain rfl : k = S := by omega
      obtain ⟨g, c, rfl, _⟩ := own_form (v := u5) HO.out (by
        rintro rfl
        rcases HO.out.2 with ⟨_, h⟩ | ⟨g, cap, cur, h, _⟩
        · omega
        · cases h)
      have HE : Hid (Bytes w.heap.size w (bytesOf n k) (.returned (.slice (some ⟨g, 0, none⟩) k c)) wr) := by
        refine Lib.hid ⟨g, c, ?_, ?_, ?_⟩
        · rw [bytesOf_length]
        · have := HO.out; rw [HBe.out] at this; rwa [bytesOf_length]
        · have := HW.out; rwa [HBe.out] at this
      go_wp2
      go_ret
      exact HE.out
end Go.Proofs.YtflepcoiidaekaaDoor

/- Numbers laid behind bytes; demands: contracts. -/
import Derived.Test.YteplapigkofgaaaDoorWirSum
import Derived.Defers
import Derived.Recover
namespace Go.Proofs.YteplapigkofgaaaDoor
open Go.ChangeShapes Go.WideShapes Go.ChangeAt Go.RowKit

theorem rowyU : Rowy Tryd.prog 22 5 (info_parts info5).choose (.int .u8 0) 1 1 := by
  obtain ⟨hi, hz0, hz1, hz2⟩ := (info_parts info5).choose_spec
  exact ⟨Tryd.underlying22, hi, hz0, hz1, hz2, rfl⟩
theorem u8s_append (l m : List Nat) : u8s (l ++ m) = u8s l ++ u8s m := by simp [u8s]
theorem u8s_len (l : List Nat) : (u8s l).length = l.length := by simp [u8s]
/-- Bytes in memory that is newer than W's. -/
def Own (W w : World) (a : Option Addr) (n c : Nat) (l : List Nat) : Prop := l.length = n ∧ (∀ x ∈ l, x < 256) ∧ ∃ bo, Slc w bo 1 (.slice a n c) n (u8s l) ∧ ∀ b, bo = some b → W.heap.size ≤ b
theorem own_bytes {W w : World} {a : Option Addr} {n c : Nat} {l : List Nat} (h : Own W w a n c l) : BytesAt w a l := by
  obtain ⟨_, h2, bo, h3, _⟩ := h
  exact slc_bytes h3 h2
theorem own_under {W w w' : World} {a : Option Addr} {n c : Nat} {l : List Nat} (h : Own W w a n c l) (hb : Below w.heap.size w w') : Own W w' a n c l := by
  obtain ⟨h1, h2, bo, h3, h4⟩ := h
  exact ⟨h1, h2, bo, slc_below h3 hb, h4⟩
theorem own_more {W w w' : World} {a' : Option Addr} {n n' c' : Nat} {l m : List Nat} {bo bo' : Option Nat} (hl : l.length = n) (hn : n + m.length = n') (hz : ∀ x ∈ l, x < 256) (hm : ∀ x ∈ m, x < 256) (hB : Below W.heap.size W w) (hbo : ∀ b, bo = some b → W.heap.size ≤ b)
    (h1 : Slc w' bo' 1 (.slice a' n' c') n' (u8s l ++ u8s m)) (h2 : Turned (fun k => bo = some k) w w') (h3 : bo' = bo ∨ bo' = some w.heap.size) : Own W w' a' n' c' (l ++ m) ∧ Below W.heap.size W w' := by
  refine ⟨⟨by rw [List.length_append, hl, hn], fun x hx => ?_, bo', by rw [u8s_append]; exact h1, fun b e => ?_⟩, Turned.to_below hB h2 hbo hB.size⟩
  · rcases List.mem_append.1 hx with h | h
    · exact hz x h
    · exact hm x h
  · rcases h3 with h | h
    · exact hbo b (h ▸ e)
    · rw [h] at e; cases e; exact hB.size
theorem shr_byte (n k : Nat) : (n : Int) / 2 ^ (8 * k) % 256 = ((n / 2 ^ (8 * k) % 256 : Nat) : Int) := shr_cast n k
theorem const_one (w : World) (c : Nat) (hc : c < 256) : BytesAt (w.alloc (.cells #[.int .u8 (c : Int)] 5)) (some ⟨w.heap.size, 0, none⟩) [c] := bytes_alloc w [c] (fun q hq => by rw [List.mem_singleton] at hq; rw [hq]; exact hc) (by show 1 ≤ maxLen; unfold maxLen; decide) (0, 0)
/-- What a row of one's own with more behind it is. -/
def Grew (W : World) (n : Nat) (l : List Nat) (e : Ending) (w' : World) : Prop := ∃ a c, e = .returned (.slice a n c) ∧ Own W w' a n c l ∧ Below W.heap.size W w'
set_option maxHeartbeats 1000000 in
theorem number_own (S n m : Nat) {r : Nat} {W w : World} {a : Option Addr} {cap : Nat} {l : List Nat} (hO : Own W w a m cap l) (hB : Below W.heap.size W w) (hS : S ≤ 8) (hm : m ≤ 1048576) (hr : m + S = r) :
    Calls Tryd.prog 10 #[.slice a m cap, .int .i64 (S : Int), .int .u64 (n : Int)] w (Grew W r (l ++ bytesOf n S)) := by
  subst hr
  have HR := Lib.hid rowyU
  have HO0 := Lib.hid hO
  have HB0 := Lib.hid hB
  have HM : Hid (∀ k, k ≤ 1048600 → k ≤ maxLen) := Lib.hid (fun k h => by unfold maxLen; omega)
  clear hO hB
  go_enter Tryd.func10, Tryd.ntmps10
  go_wp2
  go_loopw [0, 7, 9] (fun o _ i wr => ∃ (k a9 c9 : _), k ≤ S ∧ i = .int .i64 (k : Nat) ∧ o = .slice a9 (m + k) c9 ∧ Hid (Below W.heap.size W wr) ∧ Hid (Own W wr a9 (m + k) c9 (l ++ bytesOf n k))) (fun _ _ i _ => (S - (intOf i)).toNat)
  case atStart => exact ⟨0, _, _, by omega, rfl, rfl, HB0, Lib.hid (by have := HO0.out; simpa [bytesOf] using this)⟩
  case round =>
    obtain ⟨k, a9, c9, hk, rfl, rfl, HB, HO⟩ := hrel
    by_cases hlt : k < S
    · obtain ⟨hl9, hz9, bo9, hs9, hn9⟩ := HO.out
      have hb0 : n / 2 ^ (8 * k) % 256 < 256 := Nat.mod_lt _ (by decide)
      have HC1 : Hid (BytesAt (wr.alloc (.cells #[.int .u8 ((n : Int) / 2 ^ (8 * k) % 256)] 5)) (some ⟨wr.heap.size, 0, none⟩) [n / 2 ^ (8 * k) % 256]) := Lib.hid (by rw [shr_byte]; exact const_one wr _ hb0)
      have HS9 : Hid (Slc (wr.alloc (.cells #[.int .u8 ((n : Int) / 2 ^ (8 * k) % 256)] 5)) bo9 1 (.slice a9 (m + k) c9) (m + k) (u8s (l ++ bytesOf n k))) := Lib.hid (slc_below hs9 (below_alloc wr _))
      have HBA : Hid (Below W.heap.size W (wr.alloc (.cells #[.int .u8 ((n : Int) / 2 ^ (8 * k) % 256)] 5))) := Lib.hid (HB.out.alloc HB.out.size _)
      have HK : Hid (∀ (w9 : World) (a' : Option Addr) (c' : Nat) (bo' : Option Nat), Slc w9 bo' 1 (.slice a' (m + (k + 1)) c') (m + (k + 1)) (u8s (l ++ bytesOf n k) ++ u8s [n / 2 ^ (8 * k) % 256]) → Turned (fun k => bo9 = some k) (wr.alloc (.cells #[.int .u8 ((n : Int) / 2 ^ (8 * k) % 256)] 5)) w9 → (bo' = bo9 ∨ bo' = some (wr.alloc (.cells #[.int .u8 ((n : Int) / 2 ^ (8 * k) % 256)] 5)).heap.size) → Own W w9 a' (m + (k + 1)) c' (l ++ bytesOf n (k + 1)) ∧ Below W.heap.size W w9) := Lib.hid (fun w9 a' c' bo' h1 h2 h3 => by
        rw [bytesOf_succ, ← List.append_assoc]
        exact own_more hl9 (by simp; omega) hz9 (fun x hx => by rw [List.mem_singleton] at hx; rw [hx]; exact hb0) HBA.out hn9 h1 h2 h3)
      clear hl9 hz9 hs9 hn9 hb0
      go_wp2_with (at_builtin; refine wpList_slc HR.out rfl (.tmp 12) (.tmp 18) 22 rfl rfl rfl HS9.out (bytes_src Tryd.underlying22 HC1.out rfl) (Nat.add_assoc m k 1) (HM.out _ (by omega)) (by omega) ?_; intro a8 c8 b8 w8 h1 h2 h3; have h4 := HK.out w8 a8 c8 b8 h1 h2 h3; have HO8 := Lib.hid h4.1; have HB8 := Lib.hid h4.2; clear h1 h2 h3 h4)
      go_roundw
      case rel => exact ⟨k + 1, a8, c8, by omega, by go_num, rfl, HB8, HO8⟩
      case measure => simp [intOf]; omega
    · obtain rfl : k = S := by omega
      have HE : Hid (Grew W (m + k) (l ++ bytesOf n k) (.returned (.slice a9 (m + k) c9)) wr) := Lib.hid ⟨a9, c9, rfl, HO.out, HB.out⟩
      clear HO
      go_wp2
      go_ret
      exact HE.out
end Go.Proofs.YteplapigkofgaaaDoor

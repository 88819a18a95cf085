/- How many bytes a page's cells leave: a contract. -/
import Derived.Test.YtaadeoobmclpcaaPagPush
namespace Go.Proofs.Ytaadeoobmclpcaa
open Go.ChangeShapes Go.WideShapes Go.ChangeAt Go.RowKit

/-- What the first cells take. -/
def sizes (zs : List Nat) : Nat → Nat
  | 0 => 0
  | k + 1 => sizes zs k + rd zs (28 + 4 * k) 2
theorem sizes_le {zs : List Nat} (hz : ∀ c ∈ zs, c < 256) : ∀ k, 30 + 4 * k ≤ zs.length + 4 → sizes zs k ≤ 65535 * k
  | 0, _ => Nat.le_refl _
  | k + 1, h => by
    have := sizes_le hz k (by omega)
    have := rd2 hz (28 + 4 * k) (by omega)
    rw [sizes]; omega
set_option maxHeartbeats 400000 in
theorem free_any (g n cap : Nat) (a : Option Addr) (zs : List Nat) (w : World) (hb : BytesAt w a zs) (hl : zs.length = 512) (h6 : w.cell? ⟨g, 6, none⟩ = some (.int .i64 (n : Int))) (hn : 26 + 4 * n ≤ 512) :
    Calls Try.prog 18 #[.pointer (some ⟨g, 0, none⟩), .slice a 512 cap] w fun e w' => e = .returned (.int .i64 (486 - 4 * (n : Int) - (sizes zs n : Int))) ∧ w' = w := by
  have HB := Lib.hid hb
  have HL := Lib.hid hl
  have HZ := Lib.hid hb.1
  have HSE := Lib.hid (slotsEnd_any g n (by omega) w h6)
  clear hb hl
  go_enter Try.func18, Try.ntmps18
  go_wp2_with (go_at_call 19; refine HSE.out.mono ?_; rintro e w' ⟨rfl, rfl⟩)
  go_loop [5, 6, 7, 8, 16] (fun x _ _ _ i => ∃ (k : Nat), k ≤ n ∧ i = .int .i64 k ∧ x = .int .i64 (486 - 4 * (n : Int) - (sizes zs k : Int))) (fun _ _ _ _ i => (n - (intOf i)).toNat)
  case atStart => exact ⟨0, by omega, rfl, by rw [sizes]; go_num⟩
  case round =>
    obtain ⟨k, hk, rfl, rfl⟩ := hrel
    by_cases hlt : k < n
    · have hCA := cellAt_any a cap zs k w' HB.out (by have := HL.out; omega) (by have := HL.out; omega)
      rw [HL.out] at hCA
      have HCA := Lib.hid hCA
      have hs := sizes_le HZ.out k (by have := HL.out; omega)
      have hy := rd2 HZ.out (28 + 4 * k) (by have := HL.out; omega)
      have HST : Hid (sizes zs (k + 1) = sizes zs k + rd zs (28 + 4 * k) 2) := Lib.hid rfl
      obtain ⟨y, hyy⟩ : ∃ y, y = rd zs (28 + 4 * k) 2 := ⟨_, rfl⟩
      rw [← hyy] at hy HST HCA
      clear hCA hyy
      go_wp2_with (go_at_call 21; refine HCA.out.mono ?_; rintro e w' ⟨rfl, rfl⟩)
      go_round
      case rel => exact ⟨k + 1, by omega, by go_num, by rw [HST.out]; go_num⟩
      case measure => simp [intOf]; omega
    · obtain rfl : k = n := by omega
      go_wp2
      go_ret
      exact ⟨rfl, rfl⟩
end Go.Proofs.Ytaadeoobmclpcaa

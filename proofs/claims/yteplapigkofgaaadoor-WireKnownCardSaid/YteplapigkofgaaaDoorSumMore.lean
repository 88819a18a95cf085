/- The sum of any bytes behind any others, as a contract. -/
import Derived.Test.YteplapigkofgaaaDoorSumPlain
import Derived.Test.YteplapigkofgaaaDoorRows
import Derived.WalkKit
import Derived.ProofKit
import Derived.OpenShut
import Derived.WalkLawsBesides
import Derived.WalkSpells
import Derived.Outline
import Derived.Lib.LaidTab
import Derived.Lib.Hide
import Derived.Laws.BitsAllLaws
namespace Go.Proofs.YteplapigkofgaaaDoor
open Go.ChangeShapes Go.WideShapes Go.ChangeAt Go.RowKit

/-- The table's cells. -/
def TabAt (w : World) : Prop := ∀ j, j < 16 → w.cell? ⟨0, j, none⟩ = some (.int .u32 ((tab.getD j 0 : Nat) : Int))
/-- A slice that reads as these bytes. -/
def BytesAt (w : World) (a : Option Addr) (zs : List Nat) : Prop := (∀ c ∈ zs, c < 256) ∧ zs.length ≤ maxLen ∧ ∀ j, (h : j < zs.length) → ∃ b off, a = some ⟨b, off, none⟩ ∧ w.cell? ⟨b, off + j, none⟩ = some (.int .u8 (zs[j] : Int))

set_option maxHeartbeats 400000 in
theorem more_any (s : Nat) (hs : s < 4294967296) (a : Option Addr) (cap : Nat) (zs : List Nat) (w : World) (hb : BytesAt w a zs) (hT : TabAt w) :
    Calls Tryd.prog 33 #[.int .u32 (s : Int), .slice a zs.length cap] w fun e w' => e = .returned (.int .u32 (more s zs : Int)) ∧ w = w' := by
  obtain ⟨hz, hm, hc⟩ := hb
  unfold maxLen at hm
  have E0 := x32max hs
  obtain ⟨s0, hs0⟩ : ∃ s0, s0 = s ^^^ 4294967295 := ⟨_, rfl⟩
  have hs1 : s0 < 4294967296 := by rw [hs0]; exact xor_lt' hs (by decide)
  rw [← hs0] at E0
  have HM : Hid (more s zs = crc s0 zs ^^^ 4294967295) := by rw [hs0]; exact Lib.hid rfl
  have HS := Lib.hid hs0; clear hs0
  have HC := Lib.hid hc; clear hc
  have HZ := Lib.hid hz; clear hz
  have HT := Lib.hid hT; clear hT
  go_enter Tryd.func33, Tryd.ntmps33
  go_wp2
  go_loop [5, 7, 12] (fun r7 _ i => ∃ (r k : Nat), k ≤ zs.length ∧ r < 4294967296 ∧ i = .int .i64 k ∧ r7 = .int .u32 r ∧ Hid (r = crc s0 (zs.take k))) (fun _ _ i => zs.length - (intOf i).toNat)
  case atStart => exact ⟨s0, 0, by omega, hs1, rfl, rfl, Lib.hid rfl⟩
  case round =>
    obtain ⟨r, k, hk, hr, rfl, rfl, HR⟩ := hrel
    by_cases hlt : k < zs.length
    · obtain ⟨b, off, rfl, hcell⟩ := HC.out k hlt
      obtain ⟨c, hcd⟩ : ∃ c, c = zs[k] := ⟨_, rfl⟩
      have hc0 : c < 256 := by rw [hcd]; exact HZ.out _ (List.getElem_mem _)
      rw [← hcd] at hcell
      obtain ⟨x, hx⟩ : ∃ x, x = r ^^^ c := ⟨_, rfl⟩
      have hx1 : x < 4294967296 := by rw [hx]; exact xor_lt' hr (by omega)
      obtain ⟨i, hi⟩ : ∃ i, i = x % 16 := ⟨_, rfl⟩
      obtain ⟨t, ht⟩ : ∃ t, t = tab.getD i 0 := ⟨_, rfl⟩
      have hi1 : i < 16 := by omega
      have hti := HT.out i hi1
      have ht1 : t < 4294967296 := by rw [ht]; exact tab_lt _
      rw [← ht] at hti
      obtain ⟨y, hy⟩ : ∃ y, y = (x / 16) ^^^ t := ⟨_, rfl⟩
      have hy1 : y < 4294967296 := by rw [hy]; exact xor_lt' (by omega) ht1
      obtain ⟨i', hi'⟩ : ∃ i', i' = y % 16 := ⟨_, rfl⟩
      obtain ⟨t', ht'⟩ : ∃ t', t' = tab.getD i' 0 := ⟨_, rfl⟩
      have hi1' : i' < 16 := by omega
      have hti' := HT.out i' hi1'
      have ht1' : t' < 4294967296 := by rw [ht']; exact tab_lt _
      rw [← ht'] at hti'
      obtain ⟨z, hzz⟩ : ∃ z, z = (y / 16) ^^^ t' := ⟨_, rfl⟩
      have hz1 : z < 4294967296 := by rw [hzz]; exact xor_lt' (by omega) ht1'
      have e1 : bits .xor .u32 (r : Int) (c : Int) = (x : Int) := by rw [hx]; exact x32 hr (by omega)
      have e2 : bits .and .u32 (x : Int) 15 = (i : Int) := by rw [hi]; exact and15 hx1
      have e3 : bits .and .u32 (y : Int) 15 = (i' : Int) := by rw [hi']; exact and15 hy1
      have e4 : bits .xor .u32 ((x : Int) / 16) (t : Int) = (y : Int) := by rw [hy]; exact x32d hx1 ht1
      have e5 : bits .xor .u32 ((y : Int) / 16) (t' : Int) = (z : Int) := by rw [hzz]; exact x32d hy1 ht1'
      have HN : Hid (z = crc s0 (zs.take (k + 1))) := by
        refine Lib.hid ?_
        rw [crc_take_succ _ _ hlt, ← HR.out, ← hcd, hzz, ht', hi', hy, ht, hi, hx]; rfl
      clear hx hi ht hy hi' ht' hzz hcd
      go_wp2
      go_round
      case rel => exact ⟨z, k + 1, by omega, hz1, by go_num, rfl, HN⟩
      case measure => simp [intOf]; omega
    · have HK : k = zs.length := by omega
      have HE : Hid (bits .xor .u32 (IntKind.u32.max) (r : Int) = (more s zs : Int)) := by
        refine Lib.hid ?_
        rw [HM.out, x32max hr, HR.out, HK, List.take_length]
      clear HK
      have HE' := HE.out
      go_wp2
      go_ret
      exact ⟨rfl, rfl⟩
theorem of_any (a : Option Addr) (cap : Nat) (zs : List Nat) (w : World) (hb : BytesAt w a zs) (hT : TabAt w) :
    Calls Tryd.prog 19 #[.slice a zs.length cap] w fun e w' => e = .returned (.int .u32 (more 0 zs : Int)) ∧ w = w' := by
  go_enter Tryd.func19, Tryd.ntmps19
  go_wp2_with (go_at_call 33; refine (more_any 0 (by decide) a cap zs _ hb hT).mono ?_; rintro e w' ⟨rfl, rfl⟩)
  go_ret
  exact ⟨rfl, rfl⟩

end Go.Proofs.YteplapigkofgaaaDoor

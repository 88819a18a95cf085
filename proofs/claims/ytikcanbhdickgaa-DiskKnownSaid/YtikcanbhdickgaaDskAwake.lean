/- A device that is written and read: a contract. -/
import Derived.Test.YtikcanbhdickgaaDskLive
namespace Go.Proofs.Ytikcanbhdickgaa
open Go.ChangeShapes Go.WideShapes Go.ChangeAt Go.RowKit

/-- Behind New(4, 10) and the write of ones. -/
def S41 : Dsk := (doWrite (fresh 4 10) 1 onesL).1
theorem S41_r : (doWrite (fresh 4 10) 1 onesL).2 = 0 := by
  unfold doWrite fresh
  rw [if_neg (by decide), if_neg (by rw [onesL_len]; simp), if_neg (by simp)]
theorem S41_eq : (doWrite (fresh 4 10) 1 onesL).1 = S41 := rfl
theorem S41_is : S41 = { fresh 4 10 with wait := [(1, onesL)], ops := 1 } := by
  unfold S41 doWrite fresh
  rw [if_neg (by decide), if_neg (by rw [onesL_len]; simp), if_neg (by simp)]
  rfl
theorem S41_dead : S41.dead = false := by rw [S41_is]; rfl
theorem S41_pages : S41.pages.length = 4 := by rw [S41_is]; simp [fresh]
theorem S41_room : S41.room = 10 := by rw [S41_is]; rfl
theorem S41_page : pageNow S41 1 = onesL := by rw [S41_is]; simp [pageNow]
attribute [local irreducible] S41 onesL fresh
/-- Nothing is apart. -/
def Nil (_ : Nat) : Prop := False
set_option maxHeartbeats 1000000 in
set_option maxRecDepth 100000 in
theorem awake_any (w : World) : Calls Try.prog 10 #[] w fun e w' => e = .returned (.bool true) ∧ Below w.heap.size w w' := by
  have HN : Hid (Calls Try.prog 11 #[.int .i64 4, .int .i64 10] w fun e w' => ∃ g, e = .returned (.tuple #[.pointer (some ⟨g, 0, none⟩), .int .i64 0]) ∧ Live w w' (fresh 4 10) g Nil) := Lib.hid ((new_does 4 10 (by decide) (by decide) (by decide) w).mono (fun e w' hs => by
    obtain ⟨g, he, hl, _⟩ := live_new (A := Nil) hs (fun k hk => hk.elim) (Below.refl _ w) (fun _ => by unfold fresh; rfl) (fun k hk => hk.elim)
    exact ⟨g, he, hl⟩))
  have HO : Hid (∀ V, Calls Try.prog 13 #[] V (OnesOut V)) := Lib.hid (fun V => ones_any V)
  go_enter Try.func10, Try.ntmps10
  go_wp2_with (go_at_call 11; refine HN.out.mono ?_; rintro e w1 ⟨g, rfl, hl⟩; have HL1 := Lib.hid hl; clear hl)
  refine (HO.out w1).mono ?_
  rintro e w2 ⟨g2, rfl, hc2, hs2, hb2⟩
  have HW : Hid (Calls Try.prog 12 #[.pointer (some ⟨g, 0, none⟩), .int .i64 1, .slice (some ⟨g2, 0, none⟩) 512 512] w2 (Goes w w2 S41 g Nil 0)) := Lib.hid (by
    have := live_write (cap := 512) (live_on HL1.out hb2) 1 (cells_bytes hc2 onesL_byte (by rw [onesL_len]; unfold maxLen; decide)) onesL_len (by unfold fresh; decide)
    rw [S41_r, S41_eq] at this
    exact this)
  clear hc2 hs2 hb2 HL1
  go_wp2_with (go_at_call 12; refine HW.out.mono ?_; rintro e w3 ⟨rfl, hl, _⟩; have HL3 := Lib.hid hl; clear hl)
  have HR : Hid (Calls Try.prog 15 #[.pointer (some ⟨g, 0, none⟩), .int .i64 1] w3 (TellsB w3 512 onesL)) := Lib.hid (by
    have := live_read HL3.out 1 S41_dead (by rw [S41_pages]; decide)
    rw [S41_page] at this
    exact this)
  go_upto_region 6 with (go_at_call 15; refine HR.out.mono ?_; rintro e w4 ht; obtain ⟨b4, o4, c4, rfl, hs4, hy4, hl4, hb4, -, -⟩ := tells_bytes ht onesL_byte; have HL4 := Lib.hid (live_on HL3.out hb4); have HY4 := Lib.hid hy4; clear ht hs4 hy4 hl4 hb4)
  have HC1 : Hid (∀ V, Below w4.heap.size w4 V → (convert 28 9 (.slice (some ⟨b4, o4, none⟩) 512 c4)).run Try.prog V = .ok (.string (str onesL)) V) := Lib.hid (fun V hV => conv_any (bytes_below HY4.out hV) onesL_len c4)
  have HP : Hid (∀ V, Below w4.heap.size w4 V → Calls Try.prog 21 #[.pointer (some ⟨g, 0, none⟩)] V fun e w' => e = .returned (.int .i64 4) ∧ V = w') := Lib.hid (fun V hV => by
    have := live_pages (live_on HL4.out hV)
    rw [S41_pages] at this
    exact this)
  have HRM : Hid (∀ V, Below w4.heap.size w4 V → Calls Try.prog 22 #[.pointer (some ⟨g, 0, none⟩)] V fun e w' => e = .returned (.int .i64 10) ∧ V = w') := Lib.hid (fun V hV => by
    have := live_room (live_on HL4.out hV)
    rw [S41_room] at this
    exact this)
  have HB4 : Hid (Below w4.heap.size w4 w4) := Lib.hid (Below.refl _ _)
  obtain ⟨so, hso⟩ : ∃ so, so = str onesL := ⟨_, rfl⟩
  have HSO := Lib.hid hso
  rw [← hso] at HC1
  clear hso
  have k1 := HC1.out w4 HB4.out
  go_region_held (fun w' => (convert 28 9 (.slice (some ⟨b4, o4, none⟩) 512 c4)).run Try.prog w' = .ok (.string so) w') (exact HC1.out _ (by repeat (first | exact HB5.out | exact HB4.out | refine Below.drew ?_)))
    (first
      | ((go_at_call 13; refine (HO.out _).mono ?_; rintro e w5 ⟨g5, rfl, hc5, hs5, hb5⟩; have HB5 : Hid (Below w4.heap.size w4 w5) := Lib.hid (by exact ⟨hb5.os, hb5.tape, hb5.output, hb5.size, hb5.block⟩); have k5 := conv_any (cells_bytes hc5 onesL_byte (by rw [onesL_len]; unfold maxLen; decide)) onesL_len 512; rw [← HSO.out] at k5; have k5d : (convert 28 9 (.slice (some ⟨g5, 0, none⟩) 512 512)).run Try.prog w5.drew = .ok (.string so) w5.drew := (by rw [HSO.out]; exact conv_any (bytes_drew (cells_bytes hc5 onesL_byte (by rw [onesL_len]; unfold maxLen; decide))) onesL_len 512); have k6 := HC1.out _ HB5.out; clear hc5 hs5 hb5))
      | ((go_at_call 21; refine (HP.out _ (by repeat (first | exact HB5.out | exact HB4.out | refine Below.drew ?_))).mono ?_; rintro e w' ⟨rfl, rfl⟩))
      | ((go_at_call 22; refine (HRM.out _ (by repeat (first | exact HB5.out | exact HB4.out | refine Below.drew ?_))).mono ?_; rintro e w' ⟨rfl, rfl⟩)))
  all_goals
    go_wp2
    go_ret
    exact ⟨rfl, HL4.out.below.trans (HB5.out.mono HL4.out.below.size)⟩
end Go.Proofs.Ytikcanbhdickgaa

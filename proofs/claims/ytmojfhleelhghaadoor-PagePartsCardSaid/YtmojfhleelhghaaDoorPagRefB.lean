/- The document's own slots, counts, free bytes, copies of pages, numbers laid in: contracts. -/
import Derived.Test.YtmojfhleelhghaaDoorPagRef
import Derived.Test.YtmojfhleelhghaaDoorPagLays
namespace Go.Proofs.YtmojfhleelhghaaDoor
open Go.ChangeShapes Go.WideShapes Go.ChangeAt Go.RowKit

set_option maxHeartbeats 400000 in
theorem ref_put {g cap : Nat} {zs : List Nat} (q n S : Nat) {w : World} (hs : 1 ≤ S ∧ S ≤ 8) (hl : zs.length = 512) (hq : q + S ≤ 512) (h : Has w g zs) :
    Calls Tryd.prog 48 #[.slice (some ⟨g, 0, none⟩) 512 cap, .int .i64 (q : Int), .int .i64 (S : Int), .int .u64 (n : Int)] w fun e w' => e = .returned (.tuple #[]) ∧ Has w' g (lay zs q n S) ∧ Turned g w w' := by
  have HP := Lib.hid (refput_any n S w hs)
  have HH := Lib.hid h
  have HL := Lib.hid hl
  have hgl := has_lt h
  obtain ⟨bs, hbs⟩ : ∃ bs, bs = bytesOf n S := ⟨_, rfl⟩
  have HBS := Lib.hid hbs
  have HBL : Hid (bs.length = S) := Lib.hid (by rw [hbs, bytesOf_length])
  have HGL := Lib.hid hgl
  rw [← hbs] at HP
  clear h hl hbs hgl
  go_enter Tryd.func48, Tryd.ntmps48
  go_wp2_with fail
  refine HP.out.mono ?_
  rintro e w1 ⟨gb, c, rfl, ho, hb⟩
  obtain ⟨hhas, _, _, _, hle⟩ := has_of_own ho
  rw [HBL.out]
  have HB1 := Lib.hid hhas
  have HG1 := Lib.hid (has_next HH.out hb)
  have HT1 : Hid (Turned g w w1) := Lib.hid (turned_below hb)
  have HNE : Hid (gb ≠ g) := Lib.hid (by have := HGL.out; omega)
  clear ho hb hhas hle
  go_wp2
  go_loopw [9] (fun i wr => ∃ k : Nat, k ≤ S ∧ i = .int .i64 k ∧ Hid (Has wr g (lay zs q n k)) ∧ Hid (Has wr gb bs) ∧ Hid (Turned g w wr)) (fun i _ => (S - (intOf i)).toNat)
  case atStart => exact ⟨0, Nat.zero_le _, rfl, HG1, HB1, HT1⟩
  case round =>
    obtain ⟨k, hk, rfl, HG, HB, HT⟩ := hrel
    by_cases hlt : k < S
    · have hll : (lay zs q n k).length = 512 := by rw [lay_length]; exact HL.out
      obtain ⟨c0, hold⟩ : ∃ c0 : Nat, wr.cell? ⟨g, q + k, none⟩ = some (.int .u8 (c0 : Int)) := ⟨_, has_get HG.out (j := q + k) (by rw [hll]; omega)⟩
      have hfz := has_frozen HG.out (q + k)
      have hsrc : wr.cell? ⟨gb, k, none⟩ = some (.int .u8 ((n / 2 ^ (8 * k) % 256 : Nat) : Int)) := by
        have h1 := has_get HB.out (j := k) (by rw [HBL.out]; exact hlt)
        rw [h1]
        have e : bs[k]'(by rw [HBL.out]; exact hlt) = n / 2 ^ (8 * k) % 256 := by
          have := HBS.out
          subst this
          exact bytesOf_get n S k _
        rw [e]
      have HNX : Hid (Has (wr.setCell ⟨g, q + k, none⟩ (.int .u8 ((n / 2 ^ (8 * k) % 256 : Nat) : Int))) g (lay zs q n (k + 1))) := Lib.hid (by
        rw [lay]; exact has_set HG.out _ _ (by rw [hll]; omega))
      obtain ⟨d, hd⟩ : ∃ d, d = n / 2 ^ (8 * k) % 256 := ⟨_, rfl⟩
      rw [← hd] at hsrc HNX
      clear hd hll
      go_wp2
      go_roundw
      case rel => exact ⟨k + 1, by omega, by go_num, HNX, Lib.hid (has_other HB.out HNE.out), Lib.hid (turned_set HT.out _ _)⟩
      case measure => simp [intOf]; omega
    · obtain rfl : k = S := by omega
      go_wp2
      go_end0
      exact ⟨rfl, HG.out, HT.out⟩
/-- A copy of a page. -/
def CopyOut (w : World) (zs : List Nat) (e : Ending) (w' : World) : Prop := ∃ g c, e = .returned (.slice (some ⟨g, 0, none⟩) 512 c) ∧ Has w' g zs ∧ w.heap.size ≤ g ∧ 512 ≤ c ∧ c ≤ maxLen ∧ Below w.heap.size w w'
set_option maxHeartbeats 400000 in
theorem ref_copy {ad : Addr} {cap : Nat} {zs : List Nat} {w : World} (hb : BytesAt w (some ad) zs) (hl : zs.length = 512) :
    Calls Tryd.prog 49 #[.slice (some ad) 512 cap] w (CopyOut w zs) := by
  obtain ⟨i0, hi, hz0, hz1, hz2⟩ := info_parts info5
  have HU1 := Lib.hid (u8s_one zs)
  have HUL : Hid ((u8s zs).length = 512 * 1) := Lib.hid (by rw [u8s, List.length_map, hl])
  have HCS := Lib.hid (bytes_cells hb)
  clear hb
  go_enter Tryd.func49, Tryd.ntmps49
  go_wp2_with (at_builtin; refine wpList_append_own _ rfl (.tmp 4) (.tmp 5) 22 rfl w.heap.size 5 i0 (.int .u8 0) 1 1 Tryd.underlying22 hi hz0 hz1 hz2 rfl (by decide) _ _ _ rfl (World.ownsRow_nil _ _ _ _) ad 512 cap (u8s zs) rfl HUL.out HCS.out HU1.out (by unfold maxLen; omega) (by omega) (Nat.le_refl _) ?_; intro v1 w1 hown1 hgrow1 hnil1; have hne : v1 ≠ .slice none 0 0 := (fun h => by have := (hnil1.1 h).2; cases this); simp only [Nat.zero_add, List.nil_append] at hown1; rcases hown1.2 with ⟨h', _⟩ | ⟨g1, c1, cur, rfl, _⟩; (exact absurd h' hne); (have HO1 := Lib.hid (has_of_own hown1); have HB1 : Hid (Below w.heap.size w w1) := Lib.hid ((Below.refl w.heap.size w).grown hgrow1 (Nat.le_refl _) (fun k hk => by cases hk)); clear hown1 hgrow1 hnil1 hne))
  go_ret
  exact ⟨g1, c1, rfl, HO1.out.1, HO1.out.2.2.2.2, HO1.out.2.2.1, HO1.out.2.2.2.1, HB1.out⟩
theorem ref_count {a : Option Addr} {cap : Nat} {zs : List Nat} {w : World} (hb : BytesAt w a zs) (hl : zs.length = 512) :
    Calls Tryd.prog 27 #[.slice a 512 cap] w fun e w' => e = .returned (.int .i64 (rd zs 14 2 : Int)) ∧ w = w' := by
  have HG : Hid (Calls Tryd.prog 44 #[.slice a 512 cap, .int .i64 14, .int .i64 2] w fun e w' => e = .returned (.int .i64 (rd zs 14 2 : Int)) ∧ w = w') := Lib.hid (ref_get2 14 hb hl (by decide))
  clear hb hl
  go_enter Tryd.func27, Tryd.ntmps27
  go_wp2_with (go_at_call 44; refine HG.out.mono ?_; rintro e w' ⟨rfl, rfl⟩)
  go_ret
  exact ⟨rfl, rfl⟩
set_option maxHeartbeats 400000 in
theorem ref_slot {a : Option Addr} {cap : Nat} {zs : List Nat} (i : Nat) {w : World} (hb : BytesAt w a zs) (hl : zs.length = 512) (hi : 30 + 4 * i ≤ 512) :
    Calls Tryd.prog 47 #[.slice a 512 cap, .int .i64 (i : Int)] w fun e w' => e = .returned (.tuple #[.int .i64 (rd zs (26 + 4 * i) 2 : Int), .int .i64 (rd zs (28 + 4 * i) 2 : Int)]) ∧ w = w' := by
  have h1 := ref_get2 (cap := cap) (26 + 4 * i) hb hl (by omega)
  have h2 := ref_get2 (cap := cap) (28 + 4 * i) hb hl (by omega)
  rw [show ((26 + 4 * i : Nat) : Int) = 26 + 4 * (i : Int) from by omega] at h1
  rw [show ((28 + 4 * i : Nat) : Int) = 28 + 4 * (i : Int) from by omega] at h2
  have H1 := Lib.hid h1
  have H2 := Lib.hid h2
  obtain ⟨x, hx⟩ : ∃ x, x = rd zs (26 + 4 * i) 2 := ⟨_, rfl⟩
  obtain ⟨y, hy⟩ : ∃ y, y = rd zs (28 + 4 * i) 2 := ⟨_, rfl⟩
  rw [← hx] at H1 ⊢
  rw [← hy] at H2 ⊢
  clear hb hl h1 h2 hx hy
  go_enter Tryd.func47, Tryd.ntmps47
  go_wp2_with fail
  refine H1.out.mono ?_
  rintro e w' ⟨rfl, rfl⟩
  go_wp2_with fail
  refine H2.out.mono ?_
  rintro e w' ⟨rfl, rfl⟩
  go_wp2
  go_ret2
  exact ⟨rfl, rfl⟩
set_option maxHeartbeats 400000 in
theorem ref_free {a : Option Addr} {cap : Nat} {zs : List Nat} {w : World} (hb : BytesAt w a zs) (hl : zs.length = 512) (hn : 26 + 4 * rd zs 14 2 ≤ 512) :
    Calls Tryd.prog 28 #[.slice a 512 cap] w fun e w' => e = .returned (.int .i64 (486 - 4 * (rd zs 14 2 : Int) - (sizes zs (rd zs 14 2) : Int))) ∧ w = w' := by
  have HB := Lib.hid hb
  have HL := Lib.hid hl
  have HC := Lib.hid (ref_count (cap := cap) hb hl)
  obtain ⟨n, hnn⟩ : ∃ n, n = rd zs 14 2 := ⟨_, rfl⟩
  rw [← hnn] at HC hn ⊢
  clear hb hl hnn
  go_enter Tryd.func28, Tryd.ntmps28
  go_wp2_with (go_at_call 27; refine HC.out.mono ?_; rintro e w' ⟨rfl, rfl⟩)
  go_loop [3, 4, 5, 6] (fun x i _ _ => ∃ k : Nat, k ≤ n ∧ i = .int .i64 k ∧ x = .int .i64 (486 - 4 * (n : Int) - (sizes zs k : Int))) (fun _ i _ _ => (n - (intOf i)).toNat)
  case atStart => exact ⟨0, Nat.zero_le _, rfl, by rw [sizes]; go_num⟩
  case round =>
    obtain ⟨k, hk, rfl, rfl⟩ := hrel
    by_cases hlt : k < n
    · have HSL := Lib.hid (ref_slot (cap := cap) k HB.out HL.out (by omega))
      have hs := sizes_le HB.out.1 k (by have := HL.out; omega)
      have hy := rd2 HB.out.1 (28 + 4 * k) (by have := HL.out; omega)
      have HST : Hid (sizes zs (k + 1) = sizes zs k + rd zs (28 + 4 * k) 2) := Lib.hid rfl
      obtain ⟨y, hyy⟩ : ∃ y, y = rd zs (28 + 4 * k) 2 := ⟨_, rfl⟩
      rw [← hyy] at hy HST HSL
      clear hyy
      go_wp2_with (first | (go_at_call 27; refine HC.out.mono ?_; rintro e w' ⟨rfl, rfl⟩) | (go_at_call 47; refine HSL.out.mono ?_; rintro e w' ⟨rfl, rfl⟩))
      go_round
      case rel => exact ⟨k + 1, by omega, by go_num, by rw [HST.out]; go_num⟩
      case measure => simp [intOf]; omega
    · obtain rfl : k = n := by omega
      go_wp2_with (go_at_call 27; refine HC.out.mono ?_; rintro e w' ⟨rfl, rfl⟩)
      go_ret
      exact ⟨rfl, rfl⟩
end Go.Proofs.YtmojfhleelhghaaDoor

/- The document's own sum, bit by bit: a contract. -/
import Derived.Test.YtmojfhleelhghaaDoorPagChanges
import Derived.Test.YtmojfhleelhghaaDoorPagLists
import Derived.Test.YtmojfhleelhghaaDoorPagRefComp
import Derived.Test.YtmojfhleelhghaaDoorPagRefMath
import Derived.Test.YtmojfhleelhghaaDoorPagHeadsA
import Derived.Test.YtmojfhleelhghaaDoorPagRefB
namespace Go.Proofs.YtmojfhleelhghaaDoor
open Go.ChangeShapes Go.WideShapes Go.ChangeAt Go.RowKit

theorem and1 {x : Nat} (h : x < 4294967296) : bits .and .u32 (x : Int) 1 = ((x % 2 : Nat) : Int) := by
  have := u32_and_nat x 1 h (by omega)
  rw [show ((1 : Nat) : Int) = 1 from rfl] at this
  rw [this, show (1 : Nat) = 2 ^ 1 - 1 from rfl, Nat.and_two_pow_sub_one_eq_mod]
theorem f_odd {x : Nat} (h : x % 2 = 1) : f x = x / 2 ^^^ 3988292384 := by
  rw [f, shr1, if_pos (by rw [Nat.testBit_zero]; simp [h])]
  rfl
theorem f_even {x : Nat} (h : x % 2 = 0) : f x = x / 2 := by
  rw [f, shr1, if_neg (by rw [Nat.testBit_zero]; simp [h]), Nat.xor_zero]
theorem fk_succ (k x : Nat) : fk (k + 1) x = f (fk k x) := fk_add k 1 x
theorem x32p {a : Nat} (h : a < 4294967296) : bits .xor .u32 ((a : Int) / 2) 3988292384 = ((a / 2 ^^^ 3988292384 : Nat) : Int) := by
  have := u32_xor_nat (a / 2) 3988292384 (by omega) (by omega)
  rwa [Int.natCast_ediv] at this
set_option maxHeartbeats 1000000 in
theorem refmore_any (s : Nat) (hs : s < 4294967296) (a : Option Addr) (cap : Nat) (zs : List Nat) (w : World) (hb : BytesAt w a zs) :
    Calls Tryd.prog 55 #[.int .u32 (s : Int), .slice a zs.length cap] w fun e w' => e = .returned (.int .u32 (more s zs : Int)) ∧ w = w' := by
  obtain ⟨hz, hm, hc⟩ := hb
  unfold maxLen at hm
  have E0 : bits .xor .u32 (s : Int) 4294967295 = ((s ^^^ 4294967295 : Nat) : Int) := x32 hs (by decide)
  obtain ⟨s0, hs0⟩ : ∃ s0, s0 = s ^^^ 4294967295 := ⟨_, rfl⟩
  have hs1 : s0 < 4294967296 := by rw [hs0]; exact xor_lt' hs (by decide)
  rw [← hs0] at E0
  have HM : Hid (more s zs = crc s0 zs ^^^ 4294967295) := by rw [hs0]; exact Lib.hid rfl
  have HS := Lib.hid hs0; clear hs0
  have HC := Lib.hid hc; clear hc
  have HZ := Lib.hid hz; clear hz
  go_enter Tryd.func55, Tryd.ntmps55
  go_wp2
  go_loop [5, 6, 7] (fun v i _ => ∃ (r k : Nat), k ≤ zs.length ∧ r < 4294967296 ∧ i = .int .i64 k ∧ v = .int .u32 r ∧ Hid (r = crc s0 (zs.take k))) (fun _ i _ => zs.length - (intOf i).toNat)
  case atStart => exact ⟨s0, 0, by omega, hs1, rfl, rfl, Lib.hid rfl⟩
  case round =>
    obtain ⟨r, k, hk, hr, rfl, rfl, HR⟩ := hrel
    by_cases hlt : k < zs.length
    · obtain ⟨b, off, rfl, hcell⟩ := HC.out k hlt
      obtain ⟨c, hcd⟩ : ∃ c, c = zs[k] := ⟨_, rfl⟩
      have hc0 : c < 256 := by rw [hcd]; exact HZ.out _ (List.getElem_mem _)
      rw [← hcd] at hcell
      have HN : Hid (stp r c = crc s0 (zs.take (k + 1))) := Lib.hid (by rw [crc_take_succ _ _ hlt, ← HR.out, ← hcd])
      have e1 : bits .xor .u32 (r : Int) (c : Int) = ((r ^^^ c : Nat) : Int) := x32 hr (by omega)
      obtain ⟨x, hx⟩ : ∃ x, x = r ^^^ c := ⟨_, rfl⟩
      have hx1 : x < 4294967296 := by rw [hx]; exact xor_lt' hr (by omega)
      rw [← hx] at e1
      have HF : Hid (fk 8 x = stp r c) := Lib.hid (by rw [hx, stp_fk])
      clear hcd hx
      go_wp2
      go_loop [5, 7] (fun v j => ∃ (y t : Nat), t ≤ 8 ∧ y < 4294967296 ∧ j = .int .i64 t ∧ v = .int .u32 y ∧ Hid (y = fk t x)) (fun _ j => 8 - (intOf j).toNat)
      case atStart => exact ⟨x, 0, by omega, hx1, rfl, rfl, Lib.hid rfl⟩
      case round =>
        obtain ⟨y, t, ht, hy, rfl, rfl, HY⟩ := hrel
        by_cases htl : t < 8
        · have e2 := and1 hy
          have HS1 : Hid (f y = fk (t + 1) x) := Lib.hid (by rw [fk_succ, ← HY.out])
          have HYL : Hid (f y < 4294967296) := Lib.hid (f_lt hy)
          by_cases hod : y % 2 = 1
          · have HO := Lib.hid (f_odd hod)
            have e3 := x32p hy
            obtain ⟨u, hu⟩ : ∃ u, u = y / 2 ^^^ 3988292384 := ⟨_, rfl⟩
            have hu1 : u < 4294967296 := by rw [hu, ← HO.out]; exact HYL.out
            have HU : Hid (u = fk (t + 1) x) := Lib.hid (by rw [hu, ← HO.out]; exact HS1.out)
            rw [← hu] at e3
            rw [hod] at e2
            clear hu
            go_wp2
            go_round
            case rel => exact ⟨u, t + 1, by omega, hu1, by go_num, rfl, HU⟩
            case measure => simp [intOf]; omega
          · have hev : y % 2 = 0 := by omega
            have HO := Lib.hid (f_even hev)
            have HU : Hid (y / 2 = fk (t + 1) x) := Lib.hid (by rw [← HO.out]; exact HS1.out)
            rw [hev] at e2
            go_wp2
            go_round
            case rel => exact ⟨y / 2, t + 1, by omega, by omega, by go_num, by go_num, HU⟩
            case measure => simp [intOf]; omega
        · obtain rfl : t = 8 := by omega
          have HU : Hid (y = crc s0 (zs.take (k + 1))) := Lib.hid (by rw [HY.out, HF.out, HN.out])
          go_wp2
          go_round
          case rel => exact ⟨y, k + 1, by omega, hy, by go_num, rfl, HU⟩
          case measure => simp [intOf]; omega
    · have HK : k = zs.length := by omega
      have HE : Hid (bits .xor .u32 (r : Int) 4294967295 = (more s zs : Int)) := by
        refine Lib.hid ?_
        rw [show bits .xor .u32 (r : Int) 4294967295 = ((r ^^^ 4294967295 : Nat) : Int) from x32 hr (by decide), HM.out, HR.out, HK, List.take_length]
      clear HK
      have HE' := HE.out
      go_wp2
      go_ret
      exact ⟨rfl, rfl⟩
theorem refof_any (a : Option Addr) (cap : Nat) (zs : List Nat) (w : World) (hb : BytesAt w a zs) :
    Calls Tryd.prog 45 #[.slice a zs.length cap] w fun e w' => e = .returned (.int .u32 (more 0 zs : Int)) ∧ w = w' := by
  have HM : Hid (Calls Tryd.prog 55 #[.int .u32 0, .slice a zs.length cap] w fun e w' => e = .returned (.int .u32 (more 0 zs : Int)) ∧ w = w') := Lib.hid (refmore_any 0 (by decide) a cap zs w hb)
  clear hb
  go_enter Tryd.func45, Tryd.ntmps45
  go_wp2_with (go_at_call 55; refine HM.out.mono ?_; rintro e w' ⟨rfl, rfl⟩)
  go_ret
  exact ⟨rfl, rfl⟩
end Go.Proofs.YtmojfhleelhghaaDoor
namespace Go.Proofs.YtmojfhleelhghaaDoor
open Go.ChangeShapes Go.WideShapes Go.ChangeAt Go.RowKit

theorem hdOf_lsn {X : List Nat} (hz : ∀ c ∈ X, c < 256) (hl : X.length = 512) (a : Nat) (ha : a < 18446744073709551616) : hdOf (lay X 4 a 8) = { hdOf X with lsn := a } := by
  have hr : ∀ q m, q + m ≤ 4 ∨ 12 ≤ q → rd (lay X 4 a 8) q m = rd X q m := fun q m h => rd_lay_other _ _ _ _ _ (by omega) (by omega)
  have hg : ∀ j, 12 ≤ j → (lay X 4 a 8).getD j 0 = X.getD j 0 := fun j hj => by rw [lay_get _ _ _ _ (by omega), if_neg (by omega)]
  rw [hdOf, hr 0 4 (by omega), hr 18 4 (by omega), hr 22 4 (by omega), hg 12 (by omega), hg 13 (by omega), hr 14 2 (by omega), hr 16 2 (by omega), rd_lay_same hz 4 a 8 (by omega) (by omega)]
  rfl
theorem hdOf_sum {X : List Nat} (hz : ∀ c ∈ X, c < 256) (hl : X.length = 512) (a : Nat) (ha : a < 4294967296) : hdOf (lay X 0 a 4) = { hdOf X with sum := a } := by
  have hr : ∀ q m, 4 ≤ q → rd (lay X 0 a 4) q m = rd X q m := fun q m h => rd_lay_other _ _ _ _ _ (by omega) (by omega)
  have hg : ∀ j, 4 ≤ j → (lay X 0 a 4).getD j 0 = X.getD j 0 := fun j hj => by rw [lay_get _ _ _ _ (by omega), if_neg (by omega)]
  rw [hdOf, hr 18 4 (by omega), hr 22 4 (by omega), hr 4 8 (by omega), hg 12 (by omega), hg 13 (by omega), hr 14 2 (by omega), hr 16 2 (by omega), rd_lay_same hz 0 a 4 (by omega) (by omega)]
  rfl
/-- The document's sealed page. -/
def refSeal (zs : List Nat) (x : Nat) : List Nat := lay (lay zs 4 x 8) 0 (more 0 ((lay zs 4 x 8).drop 4)) 4
theorem refSeal_eq {zs : List Nat} (hz : ∀ c ∈ zs, c < 256) (hl : zs.length = 512) (x : Nat) (hx : x < 18446744073709551616) : refSeal zs x = sealed zs x := by
  have hF := hdOf_fits hz (by omega : 26 ≤ zs.length)
  have hY : (lay zs 4 x 8).length = 512 := by rw [lay_length]; exact hl
  have hYb := lay_bytes 4 x hz 8
  have hF1 : ({ hdOf zs with lsn := x } : Hd).Fits := ⟨hF.1, hF.2.1, hF.2.2.1, hx, hF.2.2.2.2.1, hF.2.2.2.2.2.1, hF.2.2.2.2.2.2.1, hF.2.2.2.2.2.2.2⟩
  have e : lay zs 4 x 8 = wr zs { hdOf zs with lsn := x } := wr_eq hYb hz hl hY hF1 (hdOf_lsn hz hl x hx) (fun j h1 h2 => by rw [lay_get _ _ _ _ (by omega), if_neg (by omega)])
  have hs : more 0 ((lay zs 4 x 8).drop 4) < 4294967296 := more_lt (by decide) _ (fun c hc => hYb c (List.mem_of_mem_drop hc))
  rw [sealed, ← e, refSeal]
  refine wr_eq (lay_bytes _ _ hYb _) hYb hY (by rw [lay_length]; exact hY) ⟨hs, hF.2.1, hF.2.2.1, hx, hF.2.2.2.2.1, hF.2.2.2.2.2.1, hF.2.2.2.2.2.2.1, hF.2.2.2.2.2.2.2⟩ ?_ (fun j h1 h2 => by rw [lay_get _ _ _ _ (by omega), if_neg (by omega)])
  rw [hdOf_sum hYb hY _ hs, hdOf_lsn hz hl x hx]
theorem refNew_eq : ∀ k : Fin 256, lay (noughts.set 12 k.val) 16 512 2 = wr noughts (newHd k.val) := by decide +kernel
theorem has_cells {w : World} {g : Nat} {zs : List Nat} (h : Cells w g 5 (u8c zs)) : Has w g zs := ⟨_, h, fun j hj => by simp [u8c, hj]⟩
attribute [local irreducible] lay wr noughts
set_option maxHeartbeats 1000000 in
theorem ref_new (kind : Nat) (hk : kind < 256) (w : World) : Calls Tryd.prog 23 #[.int .i64 (kind : Int)] w (CompOut w (wr noughts (newHd kind))) := by
  obtain ⟨i0, hi, hz0, hz1, hz2⟩ := info_parts info5
  have hbt : i0.bytes * 512 ≤ 281474976710656 := by rw [hz2]; decide
  have HBT := Lib.hid hbt
  have HEQ : Hid (lay (noughts.set 12 kind) 16 512 2 = wr noughts (newHd kind)) := Lib.hid (refNew_eq ⟨kind, hk⟩)
  have HNL : Hid (noughts.length = 512) := Lib.hid (by unfold noughts; exact List.length_replicate)
  clear hbt
  go_enter Tryd.func23, Tryd.ntmps23
  go_wp2_with (at_make; refine wpList_make_full _ rfl _ _ 22 rfl _ 5 i0 (.int .u8 0) 1 Tryd.underlying22 hi hz0 hz1 .i64 .i64 512 512 512 rfl rfl rfl rfl HBT.out (by unfold maxLen; decide) (Nat.le_refl _) ?_; intro w2 ho2 hg2; rw [made_noughts] at ho2; have HC2 := Lib.hid (has_cells (own_cells ho2)); have HB2 := Lib.hid ((Below.refl w.heap.size w).grown hg2 (Nat.le_refl _) (fun k hk => by cases hk)); clear ho2 hg2; obtain ⟨c9, hold⟩ : ∃ c9 : Nat, w2.cell? ⟨w.heap.size, 12, none⟩ = some (.int .u8 (c9 : Int)) := ⟨_, has_get HC2.out (j := 12) (by rw [HNL.out]; decide)⟩; have hfz := has_frozen HC2.out 12)
  have HH3 : Hid (Has (w2.setCell ⟨w.heap.size, 12, none⟩ (.int .u8 (kind : Int))) w.heap.size (noughts.set 12 kind)) := Lib.hid (has_set HC2.out 12 kind (by rw [HNL.out]; decide))
  have HB3 : Hid (Below w.heap.size w (w2.setCell ⟨w.heap.size, 12, none⟩ (.int .u8 (kind : Int)))) := Lib.hid (HB2.out.setCell (Nat.le_refl _) _)
  refine (put_at 16 512 2 (by decide) (by rw [List.length_set]; exact HNL.out) (by decide) HH3.out rfl rfl rfl).mono ?_
  rintro e w5 ⟨rfl, hh5, ht5⟩
  rw [HEQ.out] at hh5
  have HH5 := Lib.hid hh5
  have HB5 : Hid (Below w.heap.size w w5) := Lib.hid (below_turned HB3.out ht5 (Nat.le_refl _) HB3.out.size)
  clear hh5 ht5
  go_wp2
  go_ret
  exact ⟨_, _, rfl, HH5.out, Nat.le_refl _, Nat.le_refl _, by unfold maxLen; decide, HB5.out⟩
set_option maxHeartbeats 1000000 in
theorem ref_set {ad : Addr} {cap : Nat} {zs : List Nat} (x y : Nat) (hx : x < 4294967296) (hy : y < 4294967296) {w : World} (hb : BytesAt w (some ad) zs) (hl : zs.length = 512) :
    Calls Tryd.prog 31 #[.slice (some ad) 512 cap, .int .i64 (x : Int), .int .i64 (y : Int)] w (CompOut w (linked zs x y)) := by
  have HCP := Lib.hid (ref_copy (cap := cap) hb hl)
  have HL := Lib.hid hl
  have HE : Hid (lay (lay zs 18 x 4) 22 y 4 = linked zs x y) := Lib.hid rfl
  clear hb hl
  go_enter Tryd.func31, Tryd.ntmps31
  go_wp2_with fail
  refine HCP.out.mono ?_
  rintro e w1 ⟨g, c, rfl, hh1, hs1, hc1, hc1', hb1⟩
  have HH1 := Lib.hid hh1
  have HB1 := Lib.hid hb1
  have HS1 := Lib.hid hs1
  have HC1 := Lib.hid hc1'
  clear hh1 hb1 hs1 hc1'
  go_wp2_with fail
  refine (put_at 18 x 4 (by decide) HL.out (by decide) HH1.out rfl rfl rfl).mono ?_
  rintro e w5 ⟨rfl, hh5, ht5⟩
  have HH5 := Lib.hid hh5
  have HT5 := Lib.hid ht5
  clear hh5 ht5
  go_wp2_with fail
  refine (put_at 22 y 4 (by decide) (by rw [lay_length]; exact HL.out) (by decide) HH5.out rfl rfl rfl).mono ?_
  rintro e w6 ⟨rfl, hh6, ht6⟩
  rw [HE.out] at hh6
  have HH6 := Lib.hid hh6
  have HB6 : Hid (Below w.heap.size w w6) := Lib.hid (below_turned HB1.out (turned_trans HT5.out ht6) HS1.out HB1.out.size)
  clear hh6 ht6
  go_wp2
  go_ret
  exact ⟨g, c, rfl, HH6.out, HS1.out, hc1, HC1.out, HB6.out⟩
set_option maxHeartbeats 1000000 in
theorem ref_seal {ad : Addr} {cap : Nat} {zs : List Nat} (x : Nat) (hx : x < 18446744073709551616) {w : World} (hb : BytesAt w (some ad) zs) (hl : zs.length = 512) :
    Calls Tryd.prog 33 #[.slice (some ad) 512 cap, .int .u64 (x : Int)] w (CompOut w (sealed zs x)) := by
  have HCP := Lib.hid (ref_copy (cap := cap) hb hl)
  have HL := Lib.hid hl
  have HE : Hid (lay (lay zs 4 x 8) 0 (more 0 ((lay zs 4 x 8).drop 4)) 4 = sealed zs x) := Lib.hid (refSeal_eq hb.1 hl x hx)
  have HYB : Hid (∀ c ∈ lay zs 4 x 8, c < 256) := Lib.hid (lay_bytes 4 x hb.1 8)
  clear hb hl
  go_enter Tryd.func33, Tryd.ntmps33
  go_wp2_with fail
  refine HCP.out.mono ?_
  rintro e w1 ⟨g, c, rfl, hh1, hs1, hc1, hc1', hb1⟩
  have HH1 := Lib.hid hh1
  have HB1 := Lib.hid hb1
  have HS1 := Lib.hid hs1
  have HC1 := Lib.hid hc1'
  have hc63 : c ≤ 9223372036854775807 := by unfold maxLen at hc1'; omega
  clear hh1 hb1 hs1 hc1'
  go_wp2_with fail
  refine (put_at 4 x 8 (by decide) HL.out (by decide) HH1.out rfl rfl rfl).mono ?_
  rintro e w5 ⟨rfl, hh5, ht5⟩
  have HH5 := Lib.hid hh5
  have HT5 := Lib.hid ht5
  clear hh5 ht5
  obtain ⟨Y, hY⟩ : ∃ Y, Y = lay zs 4 x 8 := ⟨_, rfl⟩
  have HYL : Hid (Y.length = 512) := Lib.hid (by rw [hY, lay_length]; exact HL.out)
  rw [← hY] at HH5 HE HYB
  clear hY
  obtain ⟨s, hs⟩ : ∃ s, s = more 0 (Y.drop 4) := ⟨_, rfl⟩
  have hs4 : s < 4294967296 := by rw [hs]; exact more_lt (by decide) _ (fun c hc => HYB.out c (List.mem_of_mem_drop hc))
  have HOF : Hid (∀ cc, Calls Tryd.prog 45 #[.slice (some ⟨g, 4, none⟩) 508 cc] w5 fun e w' => e = .returned (.int .u32 (s : Int)) ∧ w5 = w') := Lib.hid (fun cc => by
    have h := refof_any (some ⟨g, 4, none⟩) cc (Y.drop 4) w5 (bytes_drop (has_bytes HH5.out HYB.out (page_len HYL.out)) 4)
    rw [List.length_drop, HYL.out, ← hs] at h
    exact h)
  rw [← hs] at HE
  clear hs
  go_wp2_with fail
  refine (HOF.out _).mono ?_
  rintro e w' ⟨rfl, rfl⟩
  go_wp2_with fail
  refine (put_at 0 s 4 (by decide) HYL.out (by decide) HH5.out rfl rfl rfl).mono ?_
  rintro e w6 ⟨rfl, hh6, ht6⟩
  rw [HE.out] at hh6
  have HH6 := Lib.hid hh6
  have HB6 : Hid (Below w.heap.size w w6) := Lib.hid (below_turned HB1.out (turned_trans HT5.out ht6) HS1.out HB1.out.size)
  clear hh6 ht6
  go_wp2
  go_ret
  exact ⟨g, c, rfl, HH6.out, HS1.out, hc1, HC1.out, HB6.out⟩
end Go.Proofs.YtmojfhleelhghaaDoor
namespace Go.Proofs.YtmojfhleelhghaaDoor
open Go.ChangeShapes Go.WideShapes Go.ChangeAt Go.RowKit

theorem checkOf_one {zs : List Nat} {a b : Int} (h : checkOf zs a) (k : checkOf zs b) : a = b := by
  rcases h with ⟨h1, rfl⟩ | ⟨h1, h2, rfl⟩ | ⟨h1, h2, h3, rfl⟩ | ⟨h1, h2, h3, rfl⟩ <;> rcases k with ⟨k1, rfl⟩ | ⟨k1, k2, rfl⟩ | ⟨k1, k2, k3, rfl⟩ | ⟨k1, k2, k3, rfl⟩ <;> first | rfl | exact absurd h1 k1 | exact absurd k1 h1 | exact absurd k2 h2 | exact absurd h2 k2 | exact absurd h3 k3 | exact absurd k3 h3
theorem ref_get4 {a : Option Addr} {cap : Nat} {zs : List Nat} (q : Nat) {w : World} (hb : BytesAt w a zs) (hl : zs.length = 512) (hq : q + 4 ≤ 512) :
    Calls Tryd.prog 44 #[.slice a 512 cap, .int .i64 (q : Int), .int .i64 4] w fun e w' => e = .returned (.int .i64 (rd zs q 4 : Int)) ∧ w = w' := by
  have hG := refget_any a cap zs q 4 w hb (by omega) (by omega)
  rw [hl] at hG
  have hlt : num ((zs.drop q).take 4) < 4294967296 := rd4 hb.1 q (by omega)
  obtain ⟨x, hx⟩ : ∃ x, x = num ((zs.drop q).take 4) := ⟨_, rfl⟩
  have HX : Hid ((rd zs q 4 : Int) = (x : Int)) := Lib.hid (by rw [hx]; rfl)
  rw [← hx] at hG hlt
  have HG := Lib.hid hG
  clear hG hx hb hl
  rw [HX.out]
  go_enter Tryd.func44, Tryd.ntmps44
  go_wp2_with (go_at_call 34; refine HG.out.mono ?_; rintro e w' ⟨rfl, rfl⟩)
  go_ret
  exact ⟨rfl, rfl⟩
theorem noughts_of {zs : List Nat} (hl : zs.length = 512) (h : ∀ j, j < 512 → zs.getD j 0 = 0) : zs = noughts := by
  refine list_ext (by rw [hl]; unfold noughts; rw [List.length_replicate]) (fun j hj => ?_)
  rw [hl] at hj
  rw [h j hj, noughts, List.getD_eq_getElem?_getD, List.getElem?_replicate, if_pos hj]
  rfl
theorem noughts_get' (j : Nat) : noughts.getD j 0 = 0 := by
  rw [noughts, List.getD_eq_getElem?_getD, List.getElem?_replicate]
  split <;> rfl
/-- What its loop keeps. -/
def ZeroTo (zs : List Nat) (k : Nat) (b : Bool) : Prop := (b = true ↔ zs.length = 512 ∧ ∀ j, j < k → zs.getD j 0 = 0)
theorem zeroTo_start (zs : List Nat) (b : Bool) (h : b = true ↔ zs.length = 512) : ZeroTo zs 0 b := ⟨fun e => ⟨h.1 e, fun _ hj => absurd hj (Nat.not_lt_zero _)⟩, fun e => h.2 e.1⟩
theorem zeroTo_false {zs : List Nat} {k : Nat} (h : ZeroTo zs k false) : ZeroTo zs (k + 1) false := ⟨fun e => by (cases e), fun e => absurd (h.2 ⟨e.1, fun j hj => e.2 j (by omega)⟩) (by decide)⟩
theorem zeroTo_yes {zs : List Nat} {k : Nat} (h : ZeroTo zs k true) (hz : zs.getD k 0 = 0) : ZeroTo zs (k + 1) true := ⟨fun _ => ⟨(h.1 rfl).1, fun j hj => by
  by_cases e : j = k
  · rw [e]; exact hz
  · exact (h.1 rfl).2 j (by omega)⟩, fun _ => rfl⟩
theorem zeroTo_no {zs : List Nat} {k : Nat} (hz : zs.getD k 0 ≠ 0) : ZeroTo zs (k + 1) false := ⟨fun e => by (cases e), fun e => absurd (e.2 k (by omega)) hz⟩
set_option maxHeartbeats 1000000 in
set_option maxRecDepth 100000 in
theorem ref_check {a : Option Addr} {cap : Nat} {zs : List Nat} {w : World} (hb : BytesAt w a zs) (hcap : zs.length ≤ cap) (hc63 : cap ≤ 9223372036854775807) :
    Calls Tryd.prog 19 #[.slice a zs.length cap] w fun e w' => ∃ c, e = .returned (.int .i64 c) ∧ checkOf zs c ∧ Below w.heap.size w w' := by
  have hm := hb.2.1
  unfold maxLen at hm
  have HBY := Lib.hid hb
  have HGD := Lib.hid (ref_good (cap := cap) hb)
  obtain ⟨b0, hb0⟩ : ∃ b0 : Bool, b0 = decide ((zs.length : Int) = 512) := ⟨_, rfl⟩
  have hd0 : decide ((zs.length : Int) = 512) = b0 := hb0.symm
  have hd1 : ((zs.length : Int) == 512) = b0 := by rw [hb0]; rfl
  have HST : Hid (ZeroTo zs 0 b0) := Lib.hid (zeroTo_start zs b0 (by rw [hb0, decide_eq_true_iff]; omega))
  clear hb hb0
  go_enter Tryd.func19, Tryd.ntmps19
  go_wp2
  go_loop [3, 4] (fun v i => ∃ (k : Nat) (b : Bool), k ≤ zs.length ∧ i = .int .i64 k ∧ v = .bool b ∧ Hid (ZeroTo zs k b)) (fun _ i => zs.length - (intOf i).toNat)
  case atStart => exact ⟨0, b0, by omega, rfl, rfl, HST⟩
  case round =>
    obtain ⟨k, b, hk, rfl, rfl, HZ⟩ := hrel
    by_cases hlt : k < zs.length
    · cases b with
      | false =>
        have HN := Lib.hid (zeroTo_false HZ.out)
        go_wp2
        go_round
        case rel => exact ⟨k + 1, false, by omega, by go_num, rfl, HN⟩
        case measure => simp [intOf]; omega
      | true =>
        obtain ⟨bb, off, rfl, hcell⟩ := HBY.out.2.2 k hlt
        have HGT : Hid (zs.getD k 0 = zs[k]) := Lib.hid (by rw [List.getD_eq_getElem?_getD, List.getElem?_eq_getElem hlt]; rfl)
        obtain ⟨c, hcd⟩ : ∃ c, c = zs[k] := ⟨_, rfl⟩
        rw [← hcd] at hcell HGT
        clear hcd
        by_cases hc0 : c = 0
        · subst hc0
          have HN := Lib.hid (zeroTo_yes HZ.out HGT.out)
          go_wp2
          go_round
          case rel => exact ⟨k + 1, true, by omega, by go_num, rfl, HN⟩
          case measure => simp [intOf]; omega
        · have HN := Lib.hid (zeroTo_no (zs := zs) (k := k) (by rw [HGT.out]; exact hc0))
          have e1 : ((c : Int) == 0) = false := by rw [beq_eq_false_iff_ne]; omega
          have e2 : decide ((c : Int) = 0) = false := decide_eq_false (by omega)
          go_wp2
          go_round
          case rel => exact ⟨k + 1, false, by omega, by go_num, rfl, HN⟩
          case measure => simp [intOf]; omega
    · have HK : Hid (k = zs.length) := Lib.hid (by omega)
      cases b with
      | true =>
        have HE : Hid (checkOf zs 0) := Lib.hid (by
          obtain ⟨h1, h2⟩ := HZ.out.1 rfl
          exact .inl ⟨noughts_of h1 (fun j hj => h2 j (by rw [HK.out, h1]; exact hj)), rfl⟩)
        go_wp2
        go_ret
        exact ⟨0, rfl, HE.out, Below.refl _ _⟩
      | false =>
        have HNZ : Hid (zs ≠ noughts) := Lib.hid (fun e => by
          have h := HZ.out.2 ⟨by rw [e]; unfold noughts; rw [List.length_replicate], fun j _ => by rw [e]; exact noughts_get' j⟩
          cases h)
        by_cases hg : Good zs
        · have hl : zs.length = 512 := hg.1
          have HL := Lib.hid hl
          have HG := Lib.hid hg
          have hdr : (zs.drop 4).length = 508 := by rw [List.length_drop, hl]
          have HDR := Lib.hid hdr
          obtain ⟨b, off, rfl, hcl⟩ := HBY.out.2.2 0 (by omega)
          clear hcl hl hdr hg
          go_wp2_with fail
          refine HGD.out.mono ?_
          rintro e w1 hgo
          obtain ⟨rfl, hb1⟩ := good_true hgo HG.out
          have HB1 := Lib.hid hb1
          clear hgo hb1
          obtain ⟨x, hx⟩ : ∃ x, x = rd zs 0 4 := ⟨_, rfl⟩
          obtain ⟨s, hs⟩ : ∃ s, s = more 0 (zs.drop 4) := ⟨_, rfl⟩
          have hx4 : x < 4294967296 := by rw [hx]; exact rd4 HBY.out.1 0 (by rw [HL.out]; decide)
          have hs4 : s < 4294967296 := by rw [hs]; exact more_lt (by decide) _ (fun c hc => HBY.out.1 c (List.mem_of_mem_drop hc))
          have HGE : Hid (∀ n, Calls Tryd.prog 44 #[.slice (some ⟨b, off, none⟩) 512 cap, .int .i64 0, .int .i64 4] (w1.drewN n) fun e w' => e = .returned (.int .i64 (x : Int)) ∧ w' = w1.drewN n) := Lib.hid (fun n => by
            have h := ref_get4 (cap := cap) 0 (bytes_below HBY.out (below_drewN HB1.out n)) HL.out (by decide)
            rw [← hx] at h
            exact h.mono fun _ _ h => ⟨h.1, h.2.symm⟩)
          have HOF : Hid (∀ cc n, Calls Tryd.prog 45 #[.slice (some ⟨b, off + 4, none⟩) 508 cc] (w1.drewN n) fun e w' => e = .returned (.int .u32 (s : Int)) ∧ w' = w1.drewN n) := Lib.hid (fun cc n => by
            have h := refof_any (some ⟨b, off + 4, none⟩) cc (zs.drop 4) (w1.drewN n) (bytes_sub (bytes_below HBY.out (below_drewN HB1.out n)) 4)
            rw [HDR.out, ← hs] at h
            exact h.mono fun _ _ h => ⟨h.1, h.2.symm⟩)
          rw [HL.out]
          rw [HL.out] at hcap
          by_cases hxs : x = s
          · have HE : Hid (checkOf zs 0) := Lib.hid (.inr (.inr (.inr ⟨HNZ.out, HG.out, by rw [← hx, ← hs]; exact hxs, rfl⟩)))
            subst hxs
            clear hx hs
            go_wp2
            go_quiet ((first | (go_at_call 44; exact Calls.quiet_of_same (HGE.out _)) | (go_at_call 45; exact Calls.quiet_of_same (HOF.out _ _))))
            go_wp2
            go_ret
            exact ⟨0, rfl, HE.out, below_drewN HB1.out nq⟩
          · have HE : Hid (checkOf zs 8) := Lib.hid (.inr (.inr (.inl ⟨HNZ.out, HG.out, by rw [← hx, ← hs]; exact hxs, rfl⟩)))
            have e1 : ((x : Int) != (s : Int)) = true := by rw [bne_iff_ne]; omega
            clear hx hs
            go_wp2
            go_quiet ((first | (go_at_call 44; exact Calls.quiet_of_same (HGE.out _)) | (go_at_call 45; exact Calls.quiet_of_same (HOF.out _ _))))
            go_wp2
            go_ret
            exact ⟨8, rfl, HE.out, below_drewN HB1.out nq⟩
        · have HE : Hid (checkOf zs 4) := Lib.hid (.inr (.inl ⟨HNZ.out, hg, rfl⟩))
          have HG := Lib.hid hg
          clear hg
          go_wp2_with fail
          refine HGD.out.mono ?_
          rintro e w1 hgo
          obtain ⟨rfl, hb1⟩ := good_false hgo HG.out
          have HB1 := Lib.hid hb1
          clear hgo hb1
          go_wp2
          go_ret
          exact ⟨4, rfl, HE.out, HB1.out⟩
end Go.Proofs.YtmojfhleelhghaaDoor
namespace Go.Proofs.YtmojfhleelhghaaDoor
open Go.ChangeShapes Go.WideShapes Go.ChangeAt Go.RowKit

theorem rowU_bytes {w : World} {B : Nat} {v : Value} {l : List Nat} (h : RowU w B v l) (hz : ∀ c ∈ l, c < 256) (hm : l.length ≤ maxLen) : ∃ a c, v = .slice a l.length c ∧ BytesAt w a l := by
  rcases h with ⟨rfl, rfl⟩ | ⟨g, c, rfl, hh, _⟩
  · exact ⟨none, 0, rfl, bytes_empty w⟩
  · exact ⟨_, _, rfl, has_bytes hh hz hm⟩
attribute [local irreducible] str
set_option maxHeartbeats 1000000 in
theorem lists_mixed {A B c : Nat} {xs : List (Nat × List Nat)} {v : Value} {vs : List Value} {ls : List (List Nat)} {w : World} (hA : RowsPart w A c xs) (hxc : xs.length = c) (hx : xs.map (·.2) = ls) (hv : w.ownsRow B 22 1 v c vs) (hr : RowsU w B vs ls) (hs : Short ls) (hcm : c ≤ 1000) :
    Calls Tryd.prog 29 #[.slice (some ⟨A, 0, none⟩) c c, v] w fun e w' => e = .returned (.bool true) ∧ Below w.heap.size w w' := by
  obtain ⟨ao, cv, rfl, hform⟩ := cellsU_form hv
  have hvl : vs.length = c := by rw [hr.1, ← hx, List.length_map]; exact hxc
  have HK : Hid (∀ V k, Below w.heap.size w V → k < c → ∃ G g1 a2 c2 l, ao = some ⟨G, 0, none⟩ ∧ V.cell? ⟨A, k, none⟩ = some (Value.slice (some ⟨g1, 0, none⟩) l.length l.length) ∧ V.cell? ⟨G, k, none⟩ = some (Value.slice a2 l.length c2) ∧ BytesAt V (some ⟨g1, 0, none⟩) l ∧ BytesAt V a2 l) := by
    refine Lib.hid (fun V k hV hk => ?_)
    obtain ⟨a1, a2⟩ := rowsPart_get (rowsPart_below hA hV) (k := k) (by omega)
    obtain ⟨G, e, hc, _, hGl, _⟩ := hform k (by omega)
    have hlk : k < ls.length := by rw [← hr.1]; omega
    have hru := hr.2 k (by omega) hlk
    have e2 : xs[k].2 = ls[k] := by
      have h1 : (xs.map (·.2))[k]? = some xs[k].2 := by rw [List.getElem?_map, List.getElem?_eq_getElem (by omega)]; rfl
      rw [hx, List.getElem?_eq_getElem hlk] at h1
      exact (Option.some.inj h1).symm
    have hsh := hs ls[k] (List.getElem_mem _)
    have hml : ls[k].length ≤ maxLen := by have := hsh.2; unfold maxLen; omega
    obtain ⟨b2, c2, hv2, hby⟩ := rowU_bytes hru hsh.1 hml
    rw [e2] at a1 a2
    refine ⟨G, xs[k].1, b2, c2, ls[k], e, a1, ?_, cells_bytes a2 hsh.1 hml, bytes_below hby hV⟩
    rw [← hv2, ← hc]
    exact hV.cell hGl
  clear hA hxc hx hv hr hs hvl hform
  go_enter Tryd.func29, Tryd.ntmps29
  go_wp2
  go_loopw [5] (fun i wr => ∃ k : Nat, k ≤ c ∧ i = .int .i64 k ∧ Hid (Below w.heap.size w wr)) (fun i _ => (c - (intOf i)).toNat)
  case atStart => exact ⟨0, by omega, rfl, Lib.hid (Below.refl _ _)⟩
  case round =>
    obtain ⟨k, hk, rfl, HBr⟩ := hrel
    by_cases hlt : k < c
    · obtain ⟨G, g1, a2, c2, l, rfl, hcA, hcB, b1, b2⟩ := HK.out wr k HBr.out hlt
      have hn : ∀ n, Below wr.heap.size wr (wr.drewN n) := fun n => below_drewN (Below.refl _ _) n
      have k1 : ∀ n, (convert 22 9 (.slice (some ⟨g1, 0, none⟩) l.length l.length)).run Tryd.prog (wr.drewN n) = .ok (.string (str l)) (wr.drewN n) := fun n => conv_any (bytes_below b1 (hn n)) rfl l.length
      have k2 : ∀ n, (convert 22 9 (.slice a2 l.length c2)).run Tryd.prog (wr.drewN n) = .ok (.string (str l)) (wr.drewN n) := fun n => conv_any (bytes_below b2 (hn n)) rfl c2
      obtain ⟨m, hm⟩ : ∃ m, m = l.length := ⟨_, rfl⟩
      obtain ⟨s, hs⟩ : ∃ s, s = str l := ⟨_, rfl⟩
      rw [← hm] at hcA hcB k1 k2
      rw [← hs] at k1 k2
      clear hm hs b1 b2 hn
      go_wp2
      go_quiet (fail)
      have HB5 : Hid (Below w.heap.size w (wr.drewN nq)) := Lib.hid (below_drewN HBr.out nq)
      go_wp2
      go_roundw
      case rel => exact ⟨k + 1, by omega, by go_num, HB5⟩
      case measure => simp [intOf]; omega
    · obtain rfl : k = c := by omega
      go_wp2
      go_ret
      exact ⟨rfl, HBr.out⟩
set_option maxHeartbeats 1000000 in
theorem check_short {a : Option Addr} {cap : Nat} {zs : List Nat} {w : World} (hb : BytesAt w a zs) (hl : zs.length ≠ 512) :
    Calls Tryd.prog 15 #[.slice a zs.length cap] w fun e w' => ∃ c, e = .returned (.int .i64 c) ∧ checkOf zs c ∧ Below w.heap.size w w' := by
  have hg : ¬ Good zs := fun h => hl h.1
  have HO := Lib.hid (open_bad (cap := cap) hb hg)
  have HE : Hid (checkOf zs 4) := Lib.hid (.inr (.inl ⟨fun e => hl (by rw [e]; unfold noughts; exact List.length_replicate), hg, rfl⟩))
  have hm := hb.2.1
  unfold maxLen at hm
  have e1 : ((zs.length : Int) == 512) = false := by rw [beq_eq_false_iff_ne]; omega
  have e2 : decide ((zs.length : Int) = 512) = false := decide_eq_false (by omega)
  clear hb hg
  go_enter Tryd.func15, Tryd.ntmps15
  go_wp2_with (first | (go_at_call 37; refine HO.out.mono ?_; rintro e w' ⟨cs, rfl, hbel, h8, h1⟩; have HB := Lib.hid hbel; have HS := Lib.hid (size58 cs h8); have HS0 : Hid (head0.size = cs.size) := Lib.hid h8.symm; have H1 := Lib.hid h1; clear hbel h8 h1) | (refine wpList_store_row rfl 58 (.tmp 3) _ rfl w'.heap.size cs rfl rfl 58 _ (cells_new w' 58 head0) HS.out HS0.out H1.out ?_))
  go_ret
  exact ⟨4, rfl, HE.out, below_head HB.out HB.out.size _⟩
/-- An answer that is these bytes. -/
def Is (w : World) (R : List Nat) (k : Nat) (e : Ending) (w' : World) : Prop := ∃ a c, e = .returned (.slice a k c) ∧ R.length = k ∧ BytesAt w' a R ∧ Below w.heap.size w w'
end Go.Proofs.YtmojfhleelhghaaDoor

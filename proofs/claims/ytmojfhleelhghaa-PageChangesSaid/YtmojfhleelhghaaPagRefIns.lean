/- The document's own page with one cell more: the contract. -/
import Derived.Test.YtmojfhleelhghaaPagRefMath
namespace Go.Proofs.Ytmojfhleelhghaa
open Go.ChangeShapes Go.WideShapes Go.ChangeAt Go.RowKit

/-- What the document's Insert and Replace tell. -/
def InsOut (w : World) (R : List Nat) (e : Ending) (w' : World) : Prop := ∃ g c, e = .returned (.tuple #[.slice (some ⟨g, 0, none⟩) 512 c, .bool true]) ∧ Has w' g R ∧ w.heap.size ≤ g ∧ Below w.heap.size w w'
/-- A number laid in, where it stands. -/
theorem put_at {g cap : Nat} {Z : List Nat} (q x S : Nat) {qi xi : Int} {V : World} (hs : 1 ≤ S ∧ S ≤ 8) (hl : Z.length = 512) (hq : q + S ≤ 512) (h : Has V g Z) (hqi : qi = (q : Int)) (hxi : xi = (x : Int)) {si : Int} (hsi : si = (S : Int)) :
    Calls Try.prog 37 #[.slice (some ⟨g, 0, none⟩) 512 cap, .int .i64 qi, .int .i64 si, .int .u64 xi] V fun e w' => e = .returned (.tuple #[]) ∧ Has w' g (lay Z q x S) ∧ Turned g V w' := by
  subst hqi; subst hxi; subst hsi
  exact ref_put q x S hs hl hq h
theorem slot_at {a : Option Addr} {cap : Nat} {zs : List Nat} (i : Nat) {ii : Int} {w : World} (hb : BytesAt w a zs) (hl : zs.length = 512) (hi : 30 + 4 * i ≤ 512) (hii : ii = (i : Int)) :
    Calls Try.prog 32 #[.slice a 512 cap, .int .i64 ii] w fun e w' => e = .returned (.tuple #[.int .i64 (rd zs (26 + 4 * i) 2 : Int), .int .i64 (rd zs (28 + 4 * i) 2 : Int)]) ∧ w = w' := by
  subst hii
  exact ref_slot i hb hl hi
theorem slotSet_lay (Z : List Nat) (k x y : Nat) : lay (lay Z (26 + 4 * k) x 2) (28 + 4 * k) y 2 = slotSet Z k x y := rfl
attribute [local irreducible] shUp slotSet relaid refComp lay splice insOf
set_option maxHeartbeats 4000000 in
set_option maxRecDepth 100000 in
theorem ref_insert {gs off : Nat} {ca : Option Addr} {cap ccap : Nat} {zs cs : List Nat} (i : Nat) {w : World} (hb : BytesAt w (some ⟨gs, off, none⟩) zs) (hcap : 512 ≤ cap) (hc63 : cap ≤ 9223372036854775807) (hg : Good zs) (hc : BytesAt w ca cs)
    (hin : i ≤ rd zs 14 2) (hfree : 30 + 4 * rd zs 14 2 + sizes zs (rd zs 14 2) + cs.length ≤ 512) :
    Calls Try.prog 13 #[.slice (some ⟨gs, off, none⟩) 512 cap, .int .i64 (i : Int), .slice ca cs.length ccap] w (InsOut w (insOf zs i cs)) := by
  have hl := hg.1
  have hf := good_fitting hg
  have h2 := hg.2.2.1
  have h5 := hg.2.2.2.1
  have HFR := Lib.hid (ref_free (cap := cap) hb hl (by omega))
  have HCP := Lib.hid (ref_copy (cap := cap) hb hl)
  have HCT : Hid (∀ V, Below w.heap.size w V → Calls Try.prog 12 #[.slice (some ⟨gs, off, none⟩) 512 cap] V fun e w' => e = .returned (.int .i64 (rd zs 14 2 : Int)) ∧ V = w') := Lib.hid (fun V hV => ref_count (bytes_below hb hV) hl)
  have HLW : Hid (∀ V, Below w.heap.size w V → Calls Try.prog 22 #[.slice (some ⟨gs, off, none⟩) 512 cap] V fun e w' => e = .returned (.int .i64 (rd zs 16 2 : Int)) ∧ V = w') := Lib.hid (fun V hV => ref_low (bytes_below hb hV) hl)
  have HCM : Hid (∀ V, Below w.heap.size w V → Calls Try.prog 36 #[.slice (some ⟨gs, off, none⟩) 512 cap] V (CompOut V (refComp zs))) := Lib.hid (fun V hV => ref_compact (bytes_below hb hV) hl hcap hc63 hf)
  have hR := relaid_is hb.1 hg
  have HQ : Hid (refComp zs = relaid zs (hdOf zs)) := Lib.hid (refComp_eq hb.1 hg)
  have HQL : Hid ((relaid zs (hdOf zs)).length = 512) := Lib.hid hR.len
  have HQB := Lib.hid hR.byte
  have HQC := Lib.hid (relaid_count hR)
  have HQW := Lib.hid (relaid_low hR)
  have HQH : Hid (hdOf (relaid zs (hdOf zs)) = hdRel zs) := Lib.hid hR.hd
  have HZ := Lib.hid hb.1
  have HL := Lib.hid hl
  have HCS := Lib.hid hc
  have HI1 : Hid (30 + 4 * rd zs 14 2 + cs.length ≤ rd zs 16 2 → insertedH zs (hdOf zs) i cs = insOf zs i cs) := Lib.hid (fun h => by rw [insOf, if_pos h])
  have HI2 : Hid (¬ 30 + 4 * rd zs 14 2 + cs.length ≤ rd zs 16 2 → insertedH (relaid zs (hdOf zs)) (hdRel zs) i cs = insOf zs i cs) := Lib.hid (fun h => by rw [insOf, if_neg h])
  obtain ⟨n, hn⟩ : ∃ n, n = rd zs 14 2 := ⟨_, rfl⟩
  obtain ⟨lo, hlo⟩ : ∃ lo, lo = rd zs 16 2 := ⟨_, rfl⟩
  obtain ⟨S, hS⟩ : ∃ S, S = sizes zs n := ⟨_, rfl⟩
  obtain ⟨m, hm⟩ : ∃ m, m = cs.length := ⟨_, rfl⟩
  have HN := Lib.hid hn
  have HLO := Lib.hid hlo
  have HM := Lib.hid hm
  rw [← hn] at HFR HCT HQC HQW hin hfree h2 HI1 HI2
  rw [← hlo] at HLW h2 h5 HI1 HI2
  rw [← hS] at HFR HQW hfree
  rw [← hm] at hfree HI1 HI2 ⊢
  obtain ⟨y, hy⟩ : ∃ y : Nat, (486 : Int) - 4 * (n : Int) - (S : Int) = (y : Int) := ⟨486 - 4 * n - S, by omega⟩
  rw [hy] at HFR
  have hym : m + 4 ≤ y := by omega
  have hy5 : y ≤ 486 := by omega
  have hS5 : S ≤ 486 := by omega
  have hn5 : n ≤ 120 := by omega
  clear hb hl hf hg hc hR hn hlo hS hm hy
  go_enter Try.func13, Try.ntmps13
  go_wp2_with fail
  refine HFR.out.mono ?_
  rintro e w0 ⟨rfl, rfl⟩
  go_wp2_with fail
  refine HCP.out.mono ?_
  rintro e w1 ⟨g0, c0, rfl, hh1, hs1, hc1, hc1', hb1⟩
  have HH1 := Lib.hid hh1
  have HB1 := Lib.hid hb1
  have HS1 := Lib.hid hs1
  have HC1 := Lib.hid hc1'
  clear hh1 hb1 hs1 hc1'
  go_wp2_with fail
  refine (HCT.out w1 HB1.out).mono ?_
  rintro e w' ⟨rfl, rfl⟩
  go_wp2_with fail
  refine (HLW.out w1 HB1.out).mono ?_
  rintro e w' ⟨rfl, rfl⟩
  by_cases hroom : 30 + 4 * n + m ≤ lo
  · have hd1 : decide ((lo : Int) - 26 - 4 * (n : Int) < (m : Int) + 4) = false := decide_eq_false (by omega)
    go_wp2_with fail
    have HHX := HH1
    have HBX := HB1
    have HSX := HS1
    obtain ⟨R, hR⟩ : ∃ R, R = zs := ⟨_, rfl⟩
    obtain ⟨lo1, hlo1⟩ : ∃ lo1, lo1 = lo := ⟨_, rfl⟩
    have HRL : Hid (R.length = 512) := Lib.hid (by rw [hR]; exact HL.out)
    have HRB : Hid (∀ d ∈ R, d < 256) := Lib.hid (by rw [hR]; exact HZ.out)
    have HRW : Hid (rd R 16 2 = lo1) := Lib.hid (by rw [hR, hlo1]; exact HLO.out.symm)
    have HEN : Hid (refIns R n i (lo1 - m) cs = insOf zs i cs) := Lib.hid (by
      have h := refIns_eq (cs := cs) HZ.out HL.out HCS.out.1 (i := i) (by rw [← HN.out]; exact hin) (by rw [← HN.out, ← HLO.out, ← HM.out]; exact hroom) (by rw [← HLO.out]; exact h5)
      rw [← HN.out, ← HLO.out, ← HM.out] at h
      rw [hR, hlo1, h]
      exact HI1.out hroom)
    rw [← hR] at HHX
    have hr1 : 30 + 4 * n + m ≤ lo1 := by omega
    have hr2 : lo1 ≤ 512 := by omega
    clear hR hlo1 h2 h5
    obtain ⟨lo2, hlo2⟩ : ∃ lo2, lo2 = lo1 - m := ⟨_, rfl⟩
    have hsub : (lo1 : Int) - (m : Int) = (lo2 : Int) := by omega
    have hlo25 : lo2 + m ≤ 512 := by omega
    have hlo30 : 30 + 4 * n ≤ lo2 := by omega
    rw [← hlo2] at HEN
    have hLW := ref_low (cap := c0) (has_bytes HHX.out HRB.out (by rw [HRL.out]; unfold maxLen; decide)) HRL.out
    rw [HRW.out] at hLW
    have HLWX := Lib.hid hLW
    have HSU : Hid (∀ k, i ≤ k → k ≤ n → (shUp R n k).length = 512 ∧ ∀ d ∈ shUp R n k, d < 256) := Lib.hid (fun k h1 h2 => ⟨shUp_length HRL.out h2 (by omega), shUp_bytes HRB.out n k⟩)
    have HST : Hid (∀ k, k + 1 ≤ n → rd (shUp R n (k + 1)) (26 + 4 * k) 2 = rd R (26 + 4 * k) 2 ∧ rd (shUp R n (k + 1)) (28 + 4 * k) 2 = rd R (28 + 4 * k) 2 ∧ slotSet (shUp R n (k + 1)) (k + 1) (rd R (26 + 4 * k) 2) (rd R (28 + 4 * k) 2) = shUp R n k) := Lib.hid (fun k h => shUp_step HRB.out HRL.out h (by omega))
    have HS0 : Hid (Has w1 g0 (shUp R n n)) := Lib.hid (by rw [shUp_top]; exact HHX.out)
    have HT0 : Hid (Turned g0 w1 w1) := Lib.hid (turned_refl _ _)
    have HR2 : Hid (∀ k, k + 1 ≤ n → rd R (26 + 4 * k) 2 < 65536 ∧ rd R (28 + 4 * k) 2 < 65536) := Lib.hid (fun k h => ⟨rd2 HRB.out _ (by rw [HRL.out]; omega), rd2 HRB.out _ (by rw [HRL.out]; omega)⟩)
    clear hLW hlo2 hroom hd1
    refine HLWX.out.mono ?_
    rintro e w' ⟨rfl, rfl⟩
    go_wp2
    go_loopw [11, 12, 13] (fun kk _ _ wr => ∃ k : Nat, i ≤ k ∧ k ≤ n ∧ kk = .int .i64 k ∧ Hid (Has wr g0 (shUp R n k)) ∧ Hid (Turned g0 w1 wr)) (fun kk _ _ _ => (intOf kk - (i : Int)).toNat)
    case atStart => exact ⟨n, hin, Nat.le_refl _, rfl, HS0, HT0⟩
    case round =>
      obtain ⟨k, hik, hkn, rfl, HH, HT⟩ := hrel
      by_cases hlt : i < k
      · obtain ⟨j, rfl⟩ : ∃ j, k = j + 1 := ⟨k - 1, by omega⟩
        have hsu := HSU.out (j + 1) hik hkn
        have hby := has_bytes HH.out hsu.2 (by rw [hsu.1]; unfold maxLen; decide)
        have HBY := Lib.hid hby
        have HSL := Lib.hid hsu.1
        obtain ⟨e1, e2, e3⟩ := HST.out j hkn
        obtain ⟨b1, b2⟩ := HR2.out j hkn
        obtain ⟨x, hx⟩ : ∃ x, x = rd R (26 + 4 * j) 2 := ⟨_, rfl⟩
        obtain ⟨y2, hy2⟩ : ∃ y2, y2 = rd R (28 + 4 * j) 2 := ⟨_, rfl⟩
        rw [← hx] at e1 e3 b1
        rw [← hy2] at e2 e3 b2
        have hj30 : 34 + 4 * j ≤ 512 := by omega
        have hSA : ∀ ii : Int, ii = (j : Int) → Calls Try.prog 32 #[.slice (some ⟨g0, 0, none⟩) 512 c0, .int .i64 ii] wr fun e w' => e = .returned (.tuple #[.int .i64 (x : Int), .int .i64 (y2 : Int)]) ∧ wr = w' := fun ii hii => by
          have := slot_at (cap := c0) j HBY.out HSL.out (by omega) hii
          rw [e1, e2] at this
          exact this
        have HSA := Lib.hid hSA
        have HE3 := Lib.hid e3
        clear hsu hby e1 e2 e3 hx hy2 hSA
        go_wp2_with fail
        refine (HSA.out _ (by omega)).mono ?_
        rintro e w' ⟨rfl, rfl⟩
        go_wp2_with fail
        refine (put_at (26 + 4 * (j + 1)) x 2 (by decide) HSL.out (by omega) HH.out (by omega) rfl rfl).mono ?_
        rintro e w5 ⟨rfl, hh5, ht5⟩
        have HH5 := Lib.hid hh5
        have HT5 : Hid (Turned g0 w1 w5) := Lib.hid (turned_trans HT.out ht5)
        clear hh5 ht5
        go_wp2_with fail
        refine (put_at (28 + 4 * (j + 1)) y2 2 (by decide) (by rw [lay_length]; exact HSL.out) (by omega) HH5.out (by omega) rfl rfl).mono ?_
        rintro e w6 ⟨rfl, hh6, ht6⟩
        rw [slotSet_lay, HE3.out] at hh6
        have HH6 := Lib.hid hh6
        have HT6 : Hid (Turned g0 w1 w6) := Lib.hid (turned_trans HT5.out ht6)
        clear hh6 ht6
        go_wp2
        go_roundw
        case rel => exact ⟨j, by omega, by omega, by go_num, HH6, HT6⟩
        case measure => simp [intOf]; omega
      · obtain rfl : k = i := by omega
        have hsu := HSU.out k (Nat.le_refl _) hin
        have HSL := Lib.hid hsu.1
        have HSB := Lib.hid hsu.2
        clear hsu
        go_wp2_with fail
        refine (put_at (26 + 4 * k) lo2 2 (by decide) HSL.out (by omega) HH.out (by omega) rfl rfl).mono ?_
        rintro e w5 ⟨rfl, hh5, ht5⟩
        have HH5 := Lib.hid hh5
        have HT5 : Hid (Turned g0 w1 w5) := Lib.hid (turned_trans HT.out ht5)
        clear hh5 ht5
        go_wp2_with fail
        refine (put_at (28 + 4 * k) m 2 (by decide) (by rw [lay_length]; exact HSL.out) (by omega) HH5.out (by omega) rfl rfl).mono ?_
        rintro e w6 ⟨rfl, hh6, ht6⟩
        rw [slotSet_lay] at hh6
        have HH6 := Lib.hid hh6
        have HT6 : Hid (Turned g0 w1 w6) := Lib.hid (turned_trans HT5.out ht6)
        clear hh6 ht6
        have HL6 : Hid ((slotSet (shUp R n k) k lo2 m).length = 512) := Lib.hid (by rw [slotSet_length]; exact HSL.out)
        go_wp2_with fail
        refine (put_at 14 (n + 1) 2 (by decide) HL6.out (by decide) HH6.out rfl (by omega) rfl).mono ?_
        rintro e w7 ⟨rfl, hh7, ht7⟩
        have HH7 := Lib.hid hh7
        have HT7 : Hid (Turned g0 w1 w7) := Lib.hid (turned_trans HT6.out ht7)
        clear hh7 ht7
        go_wp2_with fail
        refine (put_at 16 lo2 2 (by decide) (by rw [lay_length]; exact HL6.out) (by decide) HH7.out rfl rfl rfl).mono ?_
        rintro e w8 ⟨rfl, hh8, ht8⟩
        obtain ⟨Z, hZ⟩ : ∃ Z, Z = lay (lay (slotSet (shUp R n k) k lo2 m) 14 (n + 1) 2) 16 lo2 2 := ⟨_, rfl⟩
        rw [← hZ] at hh8
        have HZL : Hid (Z.length = 512) := Lib.hid (by rw [hZ, lay_length, lay_length]; exact HL6.out)
        have HEND : Hid (splice Z lo2 cs = insOf zs k cs) := Lib.hid (by rw [← HEN.out, refIns, hZ, HM.out])
        have HT8 : Hid (Turned g0 w1 w8) := Lib.hid (turned_trans HT7.out ht8)
        have HB8 : Hid (Below w.heap.size w w8) := Lib.hid (below_turned HBX.out HT8.out HSX.out HBX.out.size)
        have HY0 : Hid (Has w8 g0 (splice Z lo2 (cs.take 0))) := Lib.hid (by rw [List.take_zero, splice_nil]; exact hh8)
        have HYL : Hid (∀ t, t ≤ m → (splice Z lo2 (cs.take t)).length = 512) := Lib.hid (fun t ht => splice_length' HZL.out (by rw [List.length_take, ← HM.out]; omega))
        have HYS : Hid (∀ t, (ht : t < cs.length) → (splice Z lo2 (cs.take t)).set (lo2 + t) cs[t] = splice Z lo2 (cs.take (t + 1))) := Lib.hid (fun t ht => splice_step (by rw [HZL.out, ← HM.out]; omega) ht)
        clear hh8 hZ ht8
        go_wp2
        go_loopw [14] (fun tt wr => ∃ t : Nat, t ≤ m ∧ tt = .int .i64 t ∧ Hid (Has wr g0 (splice Z lo2 (cs.take t))) ∧ Hid (Turned g0 w8 wr)) (fun tt _ => (m - (intOf tt)).toNat)
        case atStart => exact ⟨0, Nat.zero_le _, rfl, HY0, Lib.hid (turned_refl _ _)⟩
        case round =>
          obtain ⟨t, ht, rfl, HHt, HTt⟩ := hrel
          by_cases htm : t < m
          · have htc : t < cs.length := by rw [← HM.out]; exact htm
            obtain ⟨bc, oc, rfl, hcc⟩ := HCS.out.2.2 t htc
            have hne : bc ≠ g0 := by
              have h1 := World.block_lt_of_cell? w _ hcc
              have h1' : bc < w.heap.size := h1
              have h2 := HSX.out
              omega
            have csrc : wr.cell? ⟨bc, oc + t, none⟩ = some (.int .u8 (cs[t] : Int)) := by
              have hlt := World.block_lt_of_cell? w _ hcc
              have h8 := (HB8.out.cell (p := ⟨bc, oc + t, none⟩) hlt).trans hcc
              rw [World.cell?_of_block (HTt.out.block bc (World.block_lt_of_cell? w8 _ h8) (fun e => hne (by cases e; rfl)))]
              exact h8
            obtain ⟨c9, hold⟩ : ∃ c9 : Nat, wr.cell? ⟨g0, lo2 + t, none⟩ = some (.int .u8 (c9 : Int)) := ⟨_, has_get HHt.out (j := lo2 + t) (by rw [HYL.out t ht]; omega)⟩
            have hfz := has_frozen HHt.out (lo2 + t)
            have HNX : Hid (Has (wr.setCell ⟨g0, lo2 + t, none⟩ (.int .u8 (cs[t] : Int))) g0 (splice Z lo2 (cs.take (t + 1)))) := Lib.hid (by
              rw [← HYS.out t htc]; exact has_set HHt.out _ _ (by rw [HYL.out t ht]; omega))
            obtain ⟨d, hd⟩ : ∃ d, d = cs[t] := ⟨_, rfl⟩
            rw [← hd] at csrc HNX
            clear hd hcc
            go_wp2
            go_roundw
            case rel => exact ⟨t + 1, by omega, by go_num, HNX, Lib.hid (turned_set HTt.out _ _)⟩
            case measure => simp [intOf]; omega
          · obtain rfl : t = m := by omega
            have HE : Hid (InsOut w (insOf zs k cs) (.returned (.tuple #[.slice (some ⟨g0, 0, none⟩) 512 c0, .bool true])) wr) := Lib.hid ⟨_, _, rfl, by rw [← HEND.out]; have h := HHt.out; rw [List.take_of_length_le (by rw [← HM.out]; exact Nat.le_refl _)] at h; exact h, HSX.out, below_turned HB8.out HTt.out HSX.out HB8.out.size⟩
            go_wp2
            go_ret2
            exact HE.out
  · have hd1 : decide ((lo : Int) - 26 - 4 * (n : Int) < (m : Int) + 4) = true := decide_eq_true (by omega)
    go_wp2_with fail
    refine (HCM.out w1 HB1.out).mono ?_
    rintro e w2 ⟨g2, c2, rfl, hh2, hs2, hc2, hc2', hb2⟩
    go_wp2_with fail
    rw [HQ.out] at hh2
    obtain ⟨R, hR⟩ : ∃ R, R = relaid zs (hdOf zs) := ⟨_, rfl⟩
    rw [← hR] at hh2
    have HHX := Lib.hid hh2
    have HBX : Hid (Below w.heap.size w w2) := Lib.hid (HB1.out.trans (hb2.mono HB1.out.size))
    have HSX : Hid (w.heap.size ≤ g2) := Lib.hid (Nat.le_trans HB1.out.size hs2)
    obtain ⟨lo1, hlo1⟩ : ∃ lo1, lo1 = 512 - S := ⟨_, rfl⟩
    have HRL : Hid (R.length = 512) := Lib.hid (by rw [hR]; exact HQL.out)
    have HRB : Hid (∀ d ∈ R, d < 256) := Lib.hid (by rw [hR]; exact HQB.out)
    have HRW : Hid (rd R 16 2 = lo1) := Lib.hid (by rw [hR, hlo1]; exact HQW.out)
    have hr1 : 30 + 4 * n + m ≤ lo1 := by omega
    have hr2 : lo1 ≤ 512 := by omega
    have HEN : Hid (refIns R n i (lo1 - m) cs = insOf zs i cs) := Lib.hid (by
      have h := refIns_eq (cs := cs) HRB.out HRL.out HCS.out.1 (i := i) (by rw [hR, HQC.out]; exact hin) (by rw [HRW.out, hR, HQC.out, ← HM.out]; exact hr1) (by rw [HRW.out]; exact hr2)
      rw [HRW.out, ← HM.out] at h
      rw [show rd R 14 2 = n from by rw [hR, HQC.out], show hdOf R = hdRel zs from by rw [hR]; exact HQH.out] at h
      rw [h, hR]
      exact HI2.out hroom)
    clear hR hlo1 h2 h5 hh2 hs2 hb2
    obtain ⟨lo2, hlo2⟩ : ∃ lo2, lo2 = lo1 - m := ⟨_, rfl⟩
    have hsub : (lo1 : Int) - (m : Int) = (lo2 : Int) := by omega
    have hlo25 : lo2 + m ≤ 512 := by omega
    have hlo30 : 30 + 4 * n ≤ lo2 := by omega
    rw [← hlo2] at HEN
    have hLW := ref_low (cap := c2) (has_bytes HHX.out HRB.out (by rw [HRL.out]; unfold maxLen; decide)) HRL.out
    rw [HRW.out] at hLW
    have HLWX := Lib.hid hLW
    have HSU : Hid (∀ k, i ≤ k → k ≤ n → (shUp R n k).length = 512 ∧ ∀ d ∈ shUp R n k, d < 256) := Lib.hid (fun k h1 h2 => ⟨shUp_length HRL.out h2 (by omega), shUp_bytes HRB.out n k⟩)
    have HST : Hid (∀ k, k + 1 ≤ n → rd (shUp R n (k + 1)) (26 + 4 * k) 2 = rd R (26 + 4 * k) 2 ∧ rd (shUp R n (k + 1)) (28 + 4 * k) 2 = rd R (28 + 4 * k) 2 ∧ slotSet (shUp R n (k + 1)) (k + 1) (rd R (26 + 4 * k) 2) (rd R (28 + 4 * k) 2) = shUp R n k) := Lib.hid (fun k h => shUp_step HRB.out HRL.out h (by omega))
    have HS0 : Hid (Has w2 g2 (shUp R n n)) := Lib.hid (by rw [shUp_top]; exact HHX.out)
    have HT0 : Hid (Turned g2 w2 w2) := Lib.hid (turned_refl _ _)
    have HR2 : Hid (∀ k, k + 1 ≤ n → rd R (26 + 4 * k) 2 < 65536 ∧ rd R (28 + 4 * k) 2 < 65536) := Lib.hid (fun k h => ⟨rd2 HRB.out _ (by rw [HRL.out]; omega), rd2 HRB.out _ (by rw [HRL.out]; omega)⟩)
    clear hLW hlo2 hroom hd1
    refine HLWX.out.mono ?_
    rintro e w' ⟨rfl, rfl⟩
    go_wp2
    go_loopw [11, 12, 13] (fun kk _ _ wr => ∃ k : Nat, i ≤ k ∧ k ≤ n ∧ kk = .int .i64 k ∧ Hid (Has wr g2 (shUp R n k)) ∧ Hid (Turned g2 w2 wr)) (fun kk _ _ _ => (intOf kk - (i : Int)).toNat)
    case atStart => exact ⟨n, hin, Nat.le_refl _, rfl, HS0, HT0⟩
    case round =>
      obtain ⟨k, hik, hkn, rfl, HH, HT⟩ := hrel
      by_cases hlt : i < k
      · obtain ⟨j, rfl⟩ : ∃ j, k = j + 1 := ⟨k - 1, by omega⟩
        have hsu := HSU.out (j + 1) hik hkn
        have hby := has_bytes HH.out hsu.2 (by rw [hsu.1]; unfold maxLen; decide)
        have HBY := Lib.hid hby
        have HSL := Lib.hid hsu.1
        obtain ⟨e1, e2, e3⟩ := HST.out j hkn
        obtain ⟨b1, b2⟩ := HR2.out j hkn
        obtain ⟨x, hx⟩ : ∃ x, x = rd R (26 + 4 * j) 2 := ⟨_, rfl⟩
        obtain ⟨y2, hy2⟩ : ∃ y2, y2 = rd R (28 + 4 * j) 2 := ⟨_, rfl⟩
        rw [← hx] at e1 e3 b1
        rw [← hy2] at e2 e3 b2
        have hj30 : 34 + 4 * j ≤ 512 := by omega
        have hSA : ∀ ii : Int, ii = (j : Int) → Calls Try.prog 32 #[.slice (some ⟨g2, 0, none⟩) 512 c2, .int .i64 ii] wr fun e w' => e = .returned (.tuple #[.int .i64 (x : Int), .int .i64 (y2 : Int)]) ∧ wr = w' := fun ii hii => by
          have := slot_at (cap := c2) j HBY.out HSL.out (by omega) hii
          rw [e1, e2] at this
          exact this
        have HSA := Lib.hid hSA
        have HE3 := Lib.hid e3
        clear hsu hby e1 e2 e3 hx hy2 hSA
        go_wp2_with fail
        refine (HSA.out _ (by omega)).mono ?_
        rintro e w' ⟨rfl, rfl⟩
        go_wp2_with fail
        refine (put_at (26 + 4 * (j + 1)) x 2 (by decide) HSL.out (by omega) HH.out (by omega) rfl rfl).mono ?_
        rintro e w5 ⟨rfl, hh5, ht5⟩
        have HH5 := Lib.hid hh5
        have HT5 : Hid (Turned g2 w2 w5) := Lib.hid (turned_trans HT.out ht5)
        clear hh5 ht5
        go_wp2_with fail
        refine (put_at (28 + 4 * (j + 1)) y2 2 (by decide) (by rw [lay_length]; exact HSL.out) (by omega) HH5.out (by omega) rfl rfl).mono ?_
        rintro e w6 ⟨rfl, hh6, ht6⟩
        rw [slotSet_lay, HE3.out] at hh6
        have HH6 := Lib.hid hh6
        have HT6 : Hid (Turned g2 w2 w6) := Lib.hid (turned_trans HT5.out ht6)
        clear hh6 ht6
        go_wp2
        go_roundw
        case rel => exact ⟨j, by omega, by omega, by go_num, HH6, HT6⟩
        case measure => simp [intOf]; omega
      · obtain rfl : k = i := by omega
        have hsu := HSU.out k (Nat.le_refl _) hin
        have HSL := Lib.hid hsu.1
        have HSB := Lib.hid hsu.2
        clear hsu
        go_wp2_with fail
        refine (put_at (26 + 4 * k) lo2 2 (by decide) HSL.out (by omega) HH.out (by omega) rfl rfl).mono ?_
        rintro e w5 ⟨rfl, hh5, ht5⟩
        have HH5 := Lib.hid hh5
        have HT5 : Hid (Turned g2 w2 w5) := Lib.hid (turned_trans HT.out ht5)
        clear hh5 ht5
        go_wp2_with fail
        refine (put_at (28 + 4 * k) m 2 (by decide) (by rw [lay_length]; exact HSL.out) (by omega) HH5.out (by omega) rfl rfl).mono ?_
        rintro e w6 ⟨rfl, hh6, ht6⟩
        rw [slotSet_lay] at hh6
        have HH6 := Lib.hid hh6
        have HT6 : Hid (Turned g2 w2 w6) := Lib.hid (turned_trans HT5.out ht6)
        clear hh6 ht6
        have HL6 : Hid ((slotSet (shUp R n k) k lo2 m).length = 512) := Lib.hid (by rw [slotSet_length]; exact HSL.out)
        go_wp2_with fail
        refine (put_at 14 (n + 1) 2 (by decide) HL6.out (by decide) HH6.out rfl (by omega) rfl).mono ?_
        rintro e w7 ⟨rfl, hh7, ht7⟩
        have HH7 := Lib.hid hh7
        have HT7 : Hid (Turned g2 w2 w7) := Lib.hid (turned_trans HT6.out ht7)
        clear hh7 ht7
        go_wp2_with fail
        refine (put_at 16 lo2 2 (by decide) (by rw [lay_length]; exact HL6.out) (by decide) HH7.out rfl rfl rfl).mono ?_
        rintro e w8 ⟨rfl, hh8, ht8⟩
        obtain ⟨Z, hZ⟩ : ∃ Z, Z = lay (lay (slotSet (shUp R n k) k lo2 m) 14 (n + 1) 2) 16 lo2 2 := ⟨_, rfl⟩
        rw [← hZ] at hh8
        have HZL : Hid (Z.length = 512) := Lib.hid (by rw [hZ, lay_length, lay_length]; exact HL6.out)
        have HEND : Hid (splice Z lo2 cs = insOf zs k cs) := Lib.hid (by rw [← HEN.out, refIns, hZ, HM.out])
        have HT8 : Hid (Turned g2 w2 w8) := Lib.hid (turned_trans HT7.out ht8)
        have HB8 : Hid (Below w.heap.size w w8) := Lib.hid (below_turned HBX.out HT8.out HSX.out HBX.out.size)
        have HY0 : Hid (Has w8 g2 (splice Z lo2 (cs.take 0))) := Lib.hid (by rw [List.take_zero, splice_nil]; exact hh8)
        have HYL : Hid (∀ t, t ≤ m → (splice Z lo2 (cs.take t)).length = 512) := Lib.hid (fun t ht => splice_length' HZL.out (by rw [List.length_take, ← HM.out]; omega))
        have HYS : Hid (∀ t, (ht : t < cs.length) → (splice Z lo2 (cs.take t)).set (lo2 + t) cs[t] = splice Z lo2 (cs.take (t + 1))) := Lib.hid (fun t ht => splice_step (by rw [HZL.out, ← HM.out]; omega) ht)
        clear hh8 hZ ht8
        go_wp2
        go_loopw [14] (fun tt wr => ∃ t : Nat, t ≤ m ∧ tt = .int .i64 t ∧ Hid (Has wr g2 (splice Z lo2 (cs.take t))) ∧ Hid (Turned g2 w8 wr)) (fun tt _ => (m - (intOf tt)).toNat)
        case atStart => exact ⟨0, Nat.zero_le _, rfl, HY0, Lib.hid (turned_refl _ _)⟩
        case round =>
          obtain ⟨t, ht, rfl, HHt, HTt⟩ := hrel
          by_cases htm : t < m
          · have htc : t < cs.length := by rw [← HM.out]; exact htm
            obtain ⟨bc, oc, rfl, hcc⟩ := HCS.out.2.2 t htc
            have hne : bc ≠ g2 := by
              have h1 := World.block_lt_of_cell? w _ hcc
              have h1' : bc < w.heap.size := h1
              have h2 := HSX.out
              omega
            have csrc : wr.cell? ⟨bc, oc + t, none⟩ = some (.int .u8 (cs[t] : Int)) := by
              have hlt := World.block_lt_of_cell? w _ hcc
              have h8 := (HB8.out.cell (p := ⟨bc, oc + t, none⟩) hlt).trans hcc
              rw [World.cell?_of_block (HTt.out.block bc (World.block_lt_of_cell? w8 _ h8) (fun e => hne (by cases e; rfl)))]
              exact h8
            obtain ⟨c9, hold⟩ : ∃ c9 : Nat, wr.cell? ⟨g2, lo2 + t, none⟩ = some (.int .u8 (c9 : Int)) := ⟨_, has_get HHt.out (j := lo2 + t) (by rw [HYL.out t ht]; omega)⟩
            have hfz := has_frozen HHt.out (lo2 + t)
            have HNX : Hid (Has (wr.setCell ⟨g2, lo2 + t, none⟩ (.int .u8 (cs[t] : Int))) g2 (splice Z lo2 (cs.take (t + 1)))) := Lib.hid (by
              rw [← HYS.out t htc]; exact has_set HHt.out _ _ (by rw [HYL.out t ht]; omega))
            obtain ⟨d, hd⟩ : ∃ d, d = cs[t] := ⟨_, rfl⟩
            rw [← hd] at csrc HNX
            clear hd hcc
            go_wp2
            go_roundw
            case rel => exact ⟨t + 1, by omega, by go_num, HNX, Lib.hid (turned_set HTt.out _ _)⟩
            case measure => simp [intOf]; omega
          · obtain rfl : t = m := by omega
            have HE : Hid (InsOut w (insOf zs k cs) (.returned (.tuple #[.slice (some ⟨g2, 0, none⟩) 512 c2, .bool true])) wr) := Lib.hid ⟨_, _, rfl, by rw [← HEND.out]; have h := HHt.out; rw [List.take_of_length_le (by rw [← HM.out]; exact Nat.le_refl _)] at h; exact h, HSX.out, below_turned HB8.out HTt.out HSX.out HB8.out.size⟩
            go_wp2
            go_ret2
            exact HE.out
end Go.Proofs.Ytmojfhleelhghaa

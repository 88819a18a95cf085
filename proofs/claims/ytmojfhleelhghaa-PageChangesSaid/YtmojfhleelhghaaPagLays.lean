/- Pages laid out anew: the walks of the law. -/
import Derived.Test.YtmojfhleelhghaaPagTwice
import Derived.Test.YtmojfhleelhghaaPagCellB
import Derived.Test.YtmojfhleelhghaaPagLens
import Derived.Test.YtmojfhleelhghaaPagAwake
import Derived.Laws.Bits64
namespace Go.Proofs.Ytmojfhleelhghaa
open Go.ChangeShapes Go.WideShapes Go.ChangeAt Go.RowKit

theorem i64_and511 (n : Int) : bits .and .i64 n 511 = (((n % 512).toNat : Nat) : Int) := by
  have h127 : (BitVec.ofInt 64 511).toNat = 2 ^ 9 - 1 := by decide
  have key : (BitVec.ofInt 64 n &&& BitVec.ofInt 64 511).toNat = (n % ((2 ^ 64 : Nat) : Int)).toNat % 2 ^ 9 := by
    rw [BitVec.toNat_and, BitVec.toNat_ofInt, h127, Nat.and_two_pow_sub_one_eq_mod]
  show IntKind.i64.wrap ((BitVec.ofInt 64 n &&& BitVec.ofInt 64 511).toNat : Nat) = _
  rw [key, IntWalk.i64_in _ (by omega)]
  omega
theorem ref_get2 {a : Option Addr} {cap : Nat} {zs : List Nat} (q : Nat) {w : World} (hb : BytesAt w a zs) (hl : zs.length = 512) (hq : q + 2 ≤ 512) :
    Calls Try.prog 33 #[.slice a 512 cap, .int .i64 (q : Int), .int .i64 2] w fun e w' => e = .returned (.int .i64 (rd zs q 2 : Int)) ∧ w = w' := by
  have hG := refget_any a cap zs q 2 w hb (by omega) (by omega)
  rw [hl] at hG
  have hlt : num ((zs.drop q).take 2) < 65536 := rd2 hb.1 q (by omega)
  obtain ⟨x, hx⟩ : ∃ x, x = num ((zs.drop q).take 2) := ⟨_, rfl⟩
  have HX : Hid ((rd zs q 2 : Int) = (x : Int)) := Lib.hid (by rw [hx]; rfl)
  rw [← hx] at hG hlt
  have HG := Lib.hid hG
  clear hG hx hb hl
  rw [HX.out]
  go_enter Try.func33, Try.ntmps33
  go_wp2_with (go_at_call 42; refine HG.out.mono ?_; rintro e w' ⟨rfl, rfl⟩)
  go_ret
  exact ⟨rfl, rfl⟩
theorem ref_low {a : Option Addr} {cap : Nat} {zs : List Nat} {w : World} (hb : BytesAt w a zs) (hl : zs.length = 512) :
    Calls Try.prog 22 #[.slice a 512 cap] w fun e w' => e = .returned (.int .i64 (rd zs 16 2 : Int)) ∧ w = w' := by
  have HG : Hid (Calls Try.prog 33 #[.slice a 512 cap, .int .i64 16, .int .i64 2] w fun e w' => e = .returned (.int .i64 (rd zs 16 2 : Int)) ∧ w = w') := Lib.hid (ref_get2 16 hb hl (by decide))
  clear hb hl
  go_enter Try.func22, Try.ntmps22
  go_wp2_with (go_at_call 33; refine HG.out.mono ?_; rintro e w' ⟨rfl, rfl⟩)
  go_ret
  exact ⟨rfl, rfl⟩
theorem lays_bad (a : Option Addr) (cap : Nat) (zs : List Nat) (n : Int) (w : World) (hb : BytesAt w a zs) (hg : ¬ Good zs) :
    Calls Try.prog 5 #[.slice a zs.length cap, .int .i64 n] w fun e w' => e = .returned (.bool true) ∧ Below w.heap.size w w' := by
  have HB := Lib.hid hb
  have HG := Lib.hid hg
  clear hb hg
  go_enter Try.func5, Try.ntmps5
  go_wp2_with fail
  refine (awake_any w).mono ?_
  rintro e w0 ⟨rfl, hb0⟩
  have HB0 := Lib.hid hb0; clear hb0
  go_wp2_with fail
  refine (Compact_bad (bytes_below HB.out HB0.out) HG.out).mono ?_
  rintro e w1 ⟨rfl, hb1⟩
  have HB1 : Hid (Below w.heap.size w w1) := Lib.hid (HB0.out.trans (hb1.mono HB0.out.size)); clear hb1
  go_wp2_with fail
  refine (good_no (bytes_below HB.out HB1.out) HG.out).mono ?_
  rintro e w2 ⟨rfl, hb2⟩
  have HB2 : Hid (Below w.heap.size w w2) := Lib.hid (HB1.out.trans (hb2.mono HB1.out.size)); clear hb2
  go_wp2
  go_ret
  exact ⟨rfl, HB2.out⟩
theorem made_zeros (n : Nat) : (madeCells (Value.cells (.int .u8 0)) (n * 1)).toList = u8s (List.replicate n 0) := by
  rw [show Value.cells (.int .u8 0) = #[.int .u8 0] from rfl, toList_madeCells_one]
  simp only [u8s, List.map_replicate, Nat.mul_one]
  rfl
theorem zeros_bytes (n : Nat) : ∀ c ∈ List.replicate n 0, c < 256 := by
  intro c h
  rw [List.mem_replicate] at h
  omega
theorem cells_next {w w' : World} {g : Nat} {t : TypeId} {cs : Array Value} (h : Cells w g t cs) (hb : Below w.heap.size w w') : Cells w' g t cs := cells_under h hb (Array.getElem?_eq_some_iff.1 h).1
theorem page_len {zs : List Nat} (h : zs.length = 512) : zs.length ≤ maxLen := by rw [h]; unfold maxLen; decide
theorem pushed_bytes {zs cs : List Nat} {H : Hd} {i a : Nat} (hz : ∀ c ∈ zs, c < 256) (hc : ∀ c ∈ cs, c < 256) (hF : ({ H with low := a } : Hd).Fits) : ∀ c ∈ pushed zs H i a cs, c < 256 :=
  wr_bytes (lay_bytes _ _ (lay_bytes _ _ (splice_bytes hz hc _) _) _) hF
theorem insertedH_bytes {zs cs : List Nat} {H : Hd} (hz : ∀ c ∈ zs, c < 256) (hc : ∀ c ∈ cs, c < 256) (hF : H.Fits) (hn : H.count + 1 < 65536) (i : Nat) : ∀ c ∈ insertedH zs H i cs, c < 256 :=
  pushed_bytes (splice_bytes hz (fun c h => hz c (List.mem_of_mem_drop (List.mem_of_mem_take h))) _) hc ⟨hF.1, hF.2.1, hF.2.2.1, hF.2.2.2.1, hF.2.2.2.2.1, hF.2.2.2.2.2.1, hn, by have := hF.2.2.2.2.2.2.2; show H.low - cs.length < 65536; omega⟩
theorem insOf_bytes {zs cs : List Nat} (hz : ∀ c ∈ zs, c < 256) (hg : Good zs) (hc : ∀ c ∈ cs, c < 256) (i : Nat) : ∀ c ∈ insOf zs i cs, c < 256 := by
  have hl := hg.1
  have h1 := hg.2.2.1
  have h2 := hg.2.2.2.1
  have hF := hdOf_fits hz (by omega : 26 ≤ zs.length)
  unfold insOf
  split
  · exact insertedH_bytes hz hc hF (by show rd zs 14 2 + 1 < 65536; omega) i
  · exact insertedH_bytes (relaid_is hz hg).byte hc (hdRel_fits hz hl) (by show rd zs 14 2 + 1 < 65536; omega) i
attribute [local irreducible] relaid insOf str
set_option maxHeartbeats 2000000 in
set_option maxRecDepth 100000 in
theorem lays_good {gs off cap : Nat} {zs : List Nat} (i : Int) {w : World} (hb : BytesAt w (some ⟨gs, off, none⟩) zs) (hcap : 512 ≤ cap) (hc63 : cap ≤ 9223372036854775807) (hg : Good zs) :
    Calls Try.prog 5 #[.slice (some ⟨gs, off, none⟩) 512 cap, .int .i64 i] w fun e w' => e = .returned (.bool true) ∧ Below w.heap.size w w' := by
  obtain ⟨i0, hi, hz0, hz1, hz2⟩ := info_parts info5
  have HBT : Hid (∀ n, n ≤ 512 → i0.bytes * n ≤ 281474976710656) := Lib.hid (fun n h => by rw [hz2]; omega)
  have HMX : Hid (∀ n, n ≤ 512 → n ≤ maxLen) := Lib.hid (fun n h => by unfold maxLen; omega)
  have hR := relaid_is hb.1 hg
  have HQG := Lib.hid (relaid_good hg hR)
  have HQB := Lib.hid hR.byte
  have HTW := Lib.hid (relaid_twice hb.1 hg)
  have HCL := Lib.hid (relaid_cells hg hR)
  have HQC := Lib.hid (relaid_count hR)
  have HQL := Lib.hid (relaid_low hR)
  have HQS := Lib.hid (relaid_sizes hR (rd zs 14 2) (Nat.le_refl _))
  have hfit := (good_fitting hg).1
  have HBY := Lib.hid hb
  have HG := Lib.hid hg
  obtain ⟨Q, hQ⟩ : ∃ Q, Q = relaid zs (hdOf zs) := ⟨_, rfl⟩
  rw [← hQ] at HQG HQB HTW HCL HQC HQL HQS
  obtain ⟨n, hn⟩ : ∃ n, n = rd zs 14 2 := ⟨_, rfl⟩
  obtain ⟨S, hS⟩ : ∃ S, S = sizes zs n := ⟨_, rfl⟩
  rw [← hn] at HQC HQL HQS HCL hfit
  rw [← hS] at HQL HQS hfit
  obtain ⟨y, hy⟩ : ∃ y : Nat, (486 : Int) - 4 * (n : Int) - (S : Int) = (y : Int) := ⟨486 - 4 * n - S, by omega⟩
  have HY := Lib.hid hy
  have hys : y + 4 * n + S = 486 := by omega
  have HQ := Lib.hid hQ
  have HN := Lib.hid hn
  have HS := Lib.hid hS
  have HSH : Hid (Short ((List.range n).map (cellOf zs))) := Lib.hid (short_cells hb.1 hg.1 _)
  have hand := i64_and511 i
  obtain ⟨m, hm⟩ : ∃ m, m = (i % 512).toNat := ⟨_, rfl⟩
  have hm5 : m < 512 := by omega
  rw [← hm] at hand
  have HAND := Lib.hid hand
  have HYS : Hid (y + 4 * n + S = 486) := Lib.hid hys
  have hy5 : y ≤ 486 := by omega
  have hn5 : n ≤ 121 := by omega
  clear hb hg hR hQ hn hS hy hfit hm hand hys
  go_enter Try.func5, Try.ntmps5
  go_wp2_with fail
  refine (awake_any w).mono ?_
  rintro e w0 ⟨rfl, hb0⟩
  have HB0 := Lib.hid hb0; clear hb0
  go_wp2_with fail
  refine (compact_good (bytes_below HBY.out HB0.out) hcap hc63 HG.out).mono ?_
  rintro e w1 ⟨gq, rfl, hc1, hs1, hb1⟩
  rw [← HQ.out] at hc1
  have HQ1 := Lib.hid hc1
  have HB1 : Hid (Below w.heap.size w w1) := Lib.hid (HB0.out.trans (hb1.mono HB0.out.size))
  clear hc1 hs1 hb1
  go_wp2_with fail
  refine (cells_good (bytes_below HBY.out HB1.out) HG.out hcap hc63).mono ?_
  rintro e w2 ⟨ga, xs, rfl, hp2, hx2, hm2, hs2, hb2⟩
  rw [← HN.out] at hp2 hx2 hm2 ⊢
  have HP2 := Lib.hid hp2
  have HX2 := Lib.hid hx2
  have HM2 := Lib.hid hm2
  have HQ2 := Lib.hid (cells_next HQ1.out hb2)
  have HB2 : Hid (Below w.heap.size w w2) := Lib.hid (HB1.out.trans (hb2.mono HB1.out.size))
  clear hp2 hx2 hm2 hs2 hb2
  go_wp2_with fail
  refine (cells_good (cap := 512) (cells_bytes HQ2.out HQB.out (page_len HQG.out.1)) HQG.out (Nat.le_refl _) (by decide)).mono ?_
  rintro e w3 ⟨gb, ys, rfl, hp3, hx3, hm3, hs3, hb3⟩
  rw [HCL.out] at hm3
  rw [HQC.out] at hp3 hx3 ⊢
  have HP3 := Lib.hid hp3
  have HP3a := Lib.hid (rowsPart_below HP2.out hb3)
  have HX3 := Lib.hid hx3
  have HM3 := Lib.hid hm3
  have HQ3 := Lib.hid (cells_next HQ2.out hb3)
  have HB3 : Hid (Below w.heap.size w w3) := Lib.hid (HB2.out.trans (hb3.mono HB2.out.size))
  clear hp3 hx3 hm3 hs3 hb3
  go_wp2_with fail
  have hf4 := Free_good (cap := cap) (bytes_below HBY.out HB3.out) HG.out
  rw [← HN.out, ← HS.out, HY.out] at hf4
  refine hf4.mono ?_
  rintro e w4 ⟨rfl, hb4⟩
  have HP4 := Lib.hid (rowsPart_below HP3.out hb4)
  have HP4a := Lib.hid (rowsPart_below HP3a.out hb4)
  have HQ4 := Lib.hid (cells_next HQ3.out hb4)
  have HB4 : Hid (Below w.heap.size w w4) := Lib.hid (HB3.out.trans (hb4.mono HB3.out.size))
  clear hf4 hb4
  go_wp2_with fail
  have hf5 := Free_good (cap := 512) (cells_bytes HQ4.out HQB.out (page_len HQG.out.1)) HQG.out
  rw [HQC.out, HQS.out, HY.out] at hf5
  refine hf5.mono ?_
  rintro e w5 ⟨rfl, hb5⟩
  have HP5 := Lib.hid (rowsPart_below HP4.out hb5)
  have HP5a := Lib.hid (rowsPart_below HP4a.out hb5)
  have HQ5 := Lib.hid (cells_next HQ4.out hb5)
  have HB5 : Hid (Below w.heap.size w w5) := Lib.hid (HB4.out.trans (hb5.mono HB4.out.size))
  clear hf5 hb5
  go_wp2_with fail
  refine (compact_good (cap := 512) (cells_bytes HQ5.out HQB.out (page_len HQG.out.1)) (Nat.le_refl _) (by decide) HQG.out).mono ?_
  rintro e w6 ⟨gr, rfl, hc6, hs6, hb6⟩
  rw [HTW.out] at hc6
  have HR6 := Lib.hid hc6
  have HP6 := Lib.hid (rowsPart_below HP5.out hb6)
  have HP6a := Lib.hid (rowsPart_below HP5a.out hb6)
  have HQ6 := Lib.hid (cells_next HQ5.out hb6)
  have HB6 : Hid (Below w.heap.size w w6) := Lib.hid (HB5.out.trans (hb6.mono HB5.out.size))
  clear hc6 hs6 hb6 HP2 HP3 HP3a HP4 HP4a HP5 HP5a HQ1 HQ2 HQ3 HQ4 HQ5 HB0 HB1 HB2 HB3 HB4 HB5
  have kr := conv_bytes (cells_bytes HR6.out HQB.out (page_len HQG.out.1)) 512
  have kq := conv_bytes (cells_bytes HQ6.out HQB.out (page_len HQG.out.1)) 512
  rw [HQG.out.1] at kr kq
  obtain ⟨sq, hsq⟩ : ∃ sq, sq = str Q := ⟨_, rfl⟩
  rw [← hsq] at kr kq
  clear hsq
  go_wp2_with fail
  have hLS := lists_same HP6a.out HP6.out HX2.out HX3.out (HM2.out.trans HM3.out.symm) (by rw [HM2.out]; exact HSH.out) (by omega)
  refine hLS.mono ?_
  rintro e w7 ⟨rfl, hb7⟩
  have HQ7 := Lib.hid (cells_next HQ6.out hb7)
  have HB7 : Hid (Below w.heap.size w w7) := Lib.hid (HB6.out.trans (hb7.mono HB6.out.size))
  clear hb7 kr kq hLS
  by_cases hy4 : y < 4
  · go_wp2_with fail
    refine (insert_full (a := some ⟨gq, 0, none⟩) (ca := none) (cap := 512) (ccap := 0) (m := 0) 0 (cells_bytes HQ7.out HQB.out (page_len HQG.out.1)) HQG.out (Nat.zero_le _) (Nat.zero_le _) (by rw [HQC.out, HQS.out]; have := HYS.out; omega)).mono ?_
    rintro e w8 ⟨rfl, hb8⟩
    have HB8 : Hid (Below w.heap.size w w8) := Lib.hid (HB7.out.trans (hb8.mono HB7.out.size))
    clear hb8
    go_wp2
    go_ret
    exact ⟨rfl, HB8.out⟩
  · have hand := HAND.out
    have HQE : Hid (30 + 4 * rd Q 14 2 + sizes Q (rd Q 14 2) = 516 - y) := Lib.hid (by rw [HQC.out, HQS.out]; have := HYS.out; omega)
    have HRO : Hid (rd Q 16 2 = 512 - S ∧ 30 + 4 * rd Q 14 2 + y = 516 - S ∧ S ≤ 486) := Lib.hid ⟨HQL.out, by rw [HQC.out]; have := HYS.out; omega, by have := HYS.out; omega⟩
    go_wp2_with (at_make; refine wpList_make_full _ rfl _ _ 22 rfl _ 5 i0 (.int .u8 0) 1 Try.underlying22 hi hz0 hz1 .i64 .i64 m m m rfl rfl rfl rfl (HBT.out m (by omega)) (HMX.out m (by omega)) (Nat.le_refl _) ?_; intro w8 ho hg; rw [made_zeros] at ho; have HM8 := Lib.hid (own_cells ho); have hgb : Below w7.heap.size w7 w8 := (Below.refl w7.heap.size w7).grown hg (Nat.le_refl _) (fun k hk => by cases hk); have HQ8 := Lib.hid (cells_next HQ7.out hgb); have HB8 : Hid (Below w.heap.size w w8) := Lib.hid (HB7.out.trans (hgb.mono HB7.out.size)); clear ho hg hgb)
    clear hand
    by_cases hmy : y < m + 4
    · refine (insert_full (a := some ⟨gq, 0, none⟩) (ca := some ⟨w7.heap.size, 0, none⟩) (cap := 512) (ccap := m) (m := m) n (cells_bytes HQ8.out HQB.out (page_len HQG.out.1)) HQG.out (HMX.out m (by omega)) (by rw [HQC.out]; exact Nat.le_refl _) (by rw [HQE.out]; omega)).mono ?_
      rintro e w9 ⟨rfl, hb9⟩
      have HB9 : Hid (Below w.heap.size w w9) := Lib.hid (HB8.out.trans (hb9.mono HB8.out.size))
      clear hb9
      go_wp2
      go_ret
      exact ⟨rfl, HB9.out⟩
    · have hIN := insert_any (cap := 512) (ccap := m) n (cells_bytes HQ8.out HQB.out (page_len HQG.out.1)) (Nat.le_refl _) (by decide) HQG.out (cells_bytes HM8.out (zeros_bytes m) (by rw [List.length_replicate]; exact HMX.out m (by omega))) (by rw [HQC.out]; exact Nat.le_refl _) (by rw [HQE.out, List.length_replicate]; omega)
      have hlen := insOf_length (cs := List.replicate m 0) HQG.out (show n ≤ rd Q 14 2 by rw [HQC.out]; exact Nat.le_refl _) (by rw [HQE.out, List.length_replicate]; omega)
      have hbeh := insert_behind (cs := List.replicate m 0) HQG.out (by rw [HRO.out.1, List.length_replicate]; have := HRO.out.2; omega)
      rw [HQC.out] at hbeh
      rw [List.length_replicate] at hIN
      have hsb := insOf_bytes HQB.out HQG.out (zeros_bytes m) n
      obtain ⟨s, hs⟩ : ∃ s, s = insOf Q n (List.replicate m 0) := ⟨_, rfl⟩
      rw [← hs] at hIN hlen hbeh hsb
      have HIN := Lib.hid hIN
      have HSL := Lib.hid hlen
      have HSD := Lib.hid hbeh
      have HSB := Lib.hid hsb
      clear hIN hlen hbeh hsb hs
      refine HIN.out.mono ?_
      rintro e w9 ⟨g9, rfl, hc9, hs9, hb9⟩
      have HS9 := Lib.hid hc9
      have HQ9 := Lib.hid (cells_next HQ8.out hb9)
      have HB9 : Hid (Below w.heap.size w w9) := Lib.hid (HB8.out.trans (hb9.mono HB8.out.size))
      clear hc9 hs9 hb9
      go_wp2
      obtain ⟨lo, hlo⟩ : ∃ lo, lo = rd Q 16 2 := ⟨_, rfl⟩
      have hl5 : lo ≤ 512 := by rw [hlo]; exact HQG.out.2.2.2.1
      have HLW : Hid (∀ k, Calls Try.prog 22 #[.slice (some ⟨gq, 0, none⟩) 512 512] (w9.drewN k) fun e w' => e = .returned (.int .i64 (lo : Int)) ∧ w' = w9.drewN k) := Lib.hid (fun k => by
        have := ref_low (cap := 512) (cells_bytes (show Cells (w9.drewN k) _ _ _ from HQ9.out) HQB.out (page_len HQG.out.1)) HQG.out.1
        rw [← hlo] at this
        exact this.mono fun _ _ h => ⟨h.1, h.2.symm⟩)
      rw [← hlo] at HSD
      clear hlo
      by_cases h512 : lo = 512
      · subst h512
        have kz : ∀ (g k : Nat), (convert 22 9 (.slice (some ⟨g, 0, none⟩) 0 0)).run Try.prog (w9.drewN k) = .ok (.string (str [])) (w9.drewN k) := fun g k => conv_bytes (zs := []) ⟨fun c hc => (by cases hc), Nat.zero_le _, fun j hj => absurd hj (Nat.not_lt_zero _)⟩ 0
        have ks := kz g9
        have kq := kz gq
        obtain ⟨sn, hsn⟩ : ∃ sn, sn = str [] := ⟨_, rfl⟩
        rw [← hsn] at ks kq
        clear hsn kz
        go_quiet ((go_at_call 22; exact Calls.quiet_of_same (HLW.out _)))
        go_wp2
        go_ret
        exact ⟨rfl, below_drewN HB9.out nq⟩
      · have hb1 : ∀ k, Below w9.heap.size w9 (w9.drewN k) := fun k => below_drewN (Below.refl _ _) k
        have ks : ∀ k, (convert 22 9 (.slice (some ⟨g9, lo, none⟩) (512 - lo) (512 - lo))).run Try.prog (w9.drewN k) = .ok (.string (str (Q.drop lo))) (w9.drewN k) := fun k => by
          have := conv_bytes (bytes_drop (bytes_below (cells_bytes HS9.out HSB.out (page_len HSL.out)) (hb1 k)) lo) (512 - lo)
          rw [HSD.out, List.length_drop, HQG.out.1] at this
          exact this
        have kq : ∀ k, (convert 22 9 (.slice (some ⟨gq, lo, none⟩) (512 - lo) (512 - lo))).run Try.prog (w9.drewN k) = .ok (.string (str (Q.drop lo))) (w9.drewN k) := fun k => by
          have := conv_bytes (bytes_drop (bytes_below (cells_bytes HQ9.out HQB.out (page_len HQG.out.1)) (hb1 k)) lo) (512 - lo)
          rw [List.length_drop, HQG.out.1] at this
          exact this
        obtain ⟨sn, hsn⟩ : ∃ sn, sn = str (Q.drop lo) := ⟨_, rfl⟩
        rw [← hsn] at ks kq
        have h512' : ¬ 512 = lo := fun h => h512 h.symm
        clear hsn hb1
        go_quiet ((go_at_call 22; exact Calls.quiet_of_same (HLW.out _)))
        go_wp2
        go_ret
        exact ⟨rfl, below_drewN HB9.out nq⟩
end Go.Proofs.Ytmojfhleelhghaa

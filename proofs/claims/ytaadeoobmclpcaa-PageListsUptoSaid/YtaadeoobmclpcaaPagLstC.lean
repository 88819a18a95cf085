/- PageLists: the walk. -/
import Derived.Test.YtaadeoobmclpcaaPagLstB
import Derived.Deep.CutBlock
namespace Go.Proofs.Ytaadeoobmclpcaa
open Go.ChangeShapes Go.WideShapes Go.ChangeAt Go.RowKit

/-- Changes that came in: what is to be done, where, the cell. -/
def DeedAt (w : World) (ao : Option Addr) (k : Nat) : Prop := ∃ b off dd aa ca cs cc, ao = some ⟨b, off, none⟩ ∧ b < w.heap.size ∧ w.cell? ⟨b, off + k * 3, none⟩ = some (.int .i64 dd) ∧ w.cell? ⟨b, off + k * 3 + 1, none⟩ = some (.int .i64 aa) ∧ w.cell? ⟨b, off + k * 3 + 2, none⟩ = some (.slice ca (List.length cs) cc) ∧ In w ca cc cs ∧ IntKind.i64.min ≤ aa ∧ aa ≤ IntKind.i64.max ∧ IntKind.i64.min ≤ dd ∧ dd ≤ IntKind.i64.max
def Kept2 (w wr : World) (g n : Nat) (ls : List (List Nat)) (no : Option Addr) (nc : Nat) : Prop := PageOf wr g ls ∧ RowsB wr no ls ∧ ls.length = n ∧ n ≤ nc ∧ nc ≤ maxLen ∧ (no = none → nc = 0) ∧ Below w.heap.size w wr ∧ (no = none ∨ ∃ b off, no = some ⟨b, off, none⟩)
theorem kept2_below {w wr W : World} {g n nc : Nat} {ls : List (List Nat)} {no : Option Addr} (h : Kept2 w wr g n ls no nc) (hb : Below wr.heap.size wr W) : Kept2 w W g n ls no nc :=
  ⟨pageOf_below h.1 hb, rowsB_below h.2.1 hb, h.2.2.1, h.2.2.2.1, h.2.2.2.2.1, h.2.2.2.2.2.1, h.2.2.2.2.2.2.1.trans (hb.mono h.2.2.2.2.2.2.1.size), h.2.2.2.2.2.2.2⟩
theorem tot_take (ls : List (List Nat)) (j : Nat) : tot (ls.take j) ≤ tot ls := by
  have : tot ls = tot (ls.take j) + tot (ls.drop j) := by
    rw [tot, tot, tot, ← List.sum_append, ← List.map_append, List.take_append_drop]
  omega
theorem kept2_row {w W : World} {g n nc : Nat} {ls : List (List Nat)} {no : Option Addr} (h : Kept2 w W g n ls no nc) {j : Nat} (hj : j < n) : ∃ G off a c, no = some ⟨G, off, none⟩ ∧ W.cell? ⟨G, off + j, none⟩ = some (.slice a (ls.getD j []).length c) ∧ (ls.getD j []).length ≤ 512 ∧ tot (ls.take (j + 1)) = tot (ls.take j) + (ls.getD j []).length := by
  have hl : j < ls.length := by rw [h.2.2.1]; exact hj
  obtain ⟨G, off, a, c, h1, h2, _⟩ := h.2.1 j hl
  have e : ls.getD j [] = ls[j] := by simp [hl]
  have h5 := (pageOf_short h.1 _ (List.getElem_mem hl)).2
  rw [e]
  refine ⟨G, off, a, c, h1, h2, h5, ?_⟩
  rw [List.take_succ_eq_append_getElem hl, tot, tot, List.map_append, List.sum_append]
  simp
theorem tmod_in (a : Int) {n : Nat} (h : 0 < n) : -(n : Int) < a.tmod n ∧ a.tmod n < n := by
  have h1 := Int.tmod_lt_of_pos a (show (0 : Int) < (n : Int) by omega)
  have h2 := Int.tmod_lt_of_pos (-a) (show (0 : Int) < (n : Int) by omega)
  rw [Int.neg_tmod] at h2
  omega
theorem i64_and3 (n : Int) : bits .and .i64 n 3 = n % 4 := by
  have h3 : (BitVec.ofInt 64 3).toNat = 2 ^ 2 - 1 := by decide
  have key : (BitVec.ofInt 64 n &&& BitVec.ofInt 64 3).toNat = (n % ((2 ^ 64 : Nat) : Int)).toNat % 2 ^ 2 := by
    rw [BitVec.toNat_and, BitVec.toNat_ofInt, h3, Nat.and_two_pow_sub_one_eq_mod]
  show IntKind.i64.wrap ((BitVec.ofInt 64 n &&& BitVec.ofInt 64 3).toNat : Nat) = _
  rw [key, IntWalk.i64_in _ (by omega)]
  omega
theorem kept2_form {w W : World} {g n nc : Nat} {ls : List (List Nat)} {no : Option Addr} (h : Kept2 w W g n ls no nc) : no = none ∨ ∃ b off, no = some ⟨b, off, none⟩ := h.2.2.2.2.2.2.2
theorem kept2_form2 {w W : World} {g n nc : Nat} {ls : List (List Nat)} {no : Option Addr} (h : Kept2 w W g n ls no nc) : (no = none ∧ nc = 0) ∨ ∃ b off, no = some ⟨b, off, none⟩ := by
  rcases h.2.2.2.2.2.2.2 with e | e
  · exact .inl ⟨e, h.2.2.2.2.2.1 e⟩
  · exact .inr e
theorem rows_kept {w W3 w7 W8 : World} {g3 g7 n7 c7 : Nat} {vs : List Value} {ls : List (List Nat)} (hb3 : Below w.heap.size w W3) (hp : PageOf W8 g3 ls) (hb : Below W3.heap.size W3 w7) (hb8 : Below w7.heap.size w7 W8) (ho : w7.ownsRow W3.heap.size 24 1 (.slice (some ⟨g7, 0, none⟩) n7 c7) n7 vs) (hv : Vals W3 vs ls) : Kept2 w W8 g3 n7 ls (some ⟨g7, 0, none⟩) c7 := by
  have ho8 := row_kept ho hb8
  have hc := row_cap ho8
  have h1 := ho.1
  refine ⟨hp, vals_rowsB ho8 (vals_below (vals_below hv hb) hb8), by rw [← hv.1]; omega, hc.1, hc.2.1, (fun h => by cases h), ?_, .inr ⟨_, _, rfl⟩⟩
  have h2 := hb3.trans (hb.mono hb3.size)
  exact h2.trans (hb8.mono h2.size)
theorem getD_get {ls : List (List Nat)} {j : Nat} (h : j < ls.length) : ls.getD j [] = ls[j] := by simp [h]
theorem kept2_src {w W : World} {g n nc : Nat} {ls : List (List Nat)} {no : Option Addr} (h : Kept2 w W g n ls no nc) : ∃ vs, Vals W vs ls ∧ vs.length = n ∧ Src W no vs := by
  obtain ⟨vs, h1, h2⟩ := rowsB_vals h.2.1
  exact ⟨vs, h1, h1.1.trans h.2.2.1, h2⟩
theorem deed_below {w w' : World} {ao : Option Addr} {k : Nat} (h : DeedAt w ao k) (hb : Below w.heap.size w w') : DeedAt w' ao k := by
  obtain ⟨b, off, dd, aa, ca, cs, cc, h1, h2, h3, h4, h5, h6, h7⟩ := h
  exact ⟨b, off, dd, aa, ca, cs, cc, h1, Nat.lt_of_lt_of_le h2 hb.size, (hb.cell h2).trans h3, (hb.cell h2).trans h4, (hb.cell h2).trans h5, in_below h6 hb, h7⟩
set_option maxHeartbeats 8000000 in
set_option maxRecDepth 100000 in
theorem lists_walk {ao : Option Addr} {len cap : Nat} {w : World} (hlen : len ≤ 9223372036854775807) (HD : Hid (∀ k, k < len → DeedAt w ao k)) :
    Calls Try.prog 3 #[.slice ao len cap] w fun e w' => e = .returned (.bool true) ∧ Below w.heap.size w w' := by
  have HA := Lib.hid (awake_any w)
  go_enter Try.func3, Try.ntmps3
  go_wp2_with fail
  refine HA.out.mono ?_
  rintro e w0 ⟨rfl, hb⟩
  have HB0 := Lib.hid hb; clear hb HA
  go_wp2_with fail
  refine (new_op w0).mono ?_
  rintro e w1 ⟨g1, rfl, hp, hb⟩
  have HB1 : Hid (Below w.heap.size w w1) := Lib.hid (HB0.out.trans (hb.mono HB0.out.size))
  have HP1 := Lib.hid hp; clear hp hb HB0
  go_wp2_with fail
  go_loopw [3, 5, 6] (fun p c i wr => ∃ (k g n nc : Nat) (no : Option Addr) (ls : List (List Nat)), k ≤ len ∧ i = .int .i64 k ∧ p = .slice (some ⟨g, 0, none⟩) 512 512 ∧ c = .slice no n nc ∧ Hid (Kept2 w wr g n ls no nc)) (fun _ _ i _ => (len - (intOf i)).toNat)
  case atStart => exact ⟨0, g1, 0, 0, none, [], by omega, rfl, rfl, rfl, Lib.hid ⟨HP1.out, rowsB_nil _ _, rfl, Nat.le_refl _, Nat.zero_le _, fun _ => rfl, HB1.out, .inl rfl⟩⟩
  case round =>
    obtain ⟨k, g, n, nc, no, ls, hk, rfl, rfl, rfl, HK⟩ := hrel
    clear HP1 HB1
    by_cases hlt : k < len
    · obtain ⟨b, off, dd, aa, ca, cs, cc, rfl, hbw, hc1, hc2, hc3, hin, ha1, ha2, hd1, hd2⟩ := deed_below (HD.out k hlt) (HK.out.2.2.2.2.2.2.1)
      have hn1 : n ≤ nc := HK.out.2.2.2.1
      have hn121 : n ≤ 121 := by have := pageOf_tot HK.out.1; have := HK.out.2.2.1; omega
      have HIN := Lib.hid hin; clear hin
      obtain ⟨m, hm⟩ : ∃ m, m = cs.length := ⟨_, rfl⟩
      rw [← hm] at hc3
      have HM := Lib.hid hm; clear hm
      go_wp2_with fail
      have HB1 := below_alloc wr (.cells #[.int .i64 dd, .int .i64 aa, .slice ca m cc] 30)
      have hD := cells_new wr 30 #[.int .i64 dd, .int .i64 aa, .slice ca m cc]
      have HK1 := Lib.hid (kept2_below HK.out HB1)
      have HIN1 := Lib.hid (in_below HIN.out HB1)
      generalize wr.alloc (.cells #[.int .i64 dd, .int .i64 aa, .slice ca m cc] 30) = W at hD HK1 HIN1 HB1 ⊢
      have hDl : wr.heap.size < W.heap.size := (Array.getElem?_eq_some_iff.1 hD).1
      generalize wr.heap.size = Db at hD hDl HB1 hbw ⊢
      have d0 := cell_of_row W Db 0 _ _ _ hD
      have d1 := cell_of_row W Db 1 _ _ _ hD
      have d2 := cell_of_row W Db 2 _ _ _ hD
      simp only [List.getElem?_toArray, List.getElem?_cons_zero, List.getElem?_cons_succ] at d0 d1 d2
      clear HK HIN HB1 hD hc1 hc2 hc3
      go_loop [8, 9] (fun s i => ∃ (j : Nat) (x : Int), j ≤ n ∧ i = .int .i64 j ∧ s = .int .i64 x ∧ Hid (x = 486 - 4 * (j : Int) - (tot (ls.take j) : Int))) (fun _ i => (n - (intOf i)).toNat)
      case atStart => exact ⟨0, 486, by omega, rfl, rfl, Lib.hid (by simp [tot])⟩
      case round =>
        obtain ⟨j, x, hj, rfl, rfl, HX⟩ := hrel
        by_cases hjn : j < n
        · obtain ⟨G, off2, a2, c2, rfl, hcl, hl5, ht⟩ := kept2_row HK1.out hjn
          have hxb : -100000 ≤ x ∧ x ≤ 486 := by
            have h1 := HX.out
            have h2 := tot_take ls j
            have h3 := pageOf_tot HK1.out.1
            omega
          obtain ⟨h1, h2⟩ := hxb
          have HX2 : Hid (x - 4 - ((ls.getD j []).length : Int) = 486 - 4 * ((j + 1 : Nat) : Int) - (tot (ls.take (j + 1)) : Int)) := Lib.hid (by rw [HX.out, ht]; omega)
          generalize (ls.getD j []).length = z at hcl hl5 HX2 ht
          clear ht
          go_wp2
          go_round
          case rel => exact ⟨j + 1, _, by omega, by go_num, rfl, HX2⟩
          case measure => simp [intOf]; omega
        · obtain rfl : n = j := by omega
          have hx0 : Hid (x = 486 - 4 * (n : Int) - (tot ls : Int) ∧ 0 ≤ x ∧ x ≤ 486) := by
            have h1 := HX.out
            have h2 := pageOf_tot HK1.out.1
            have h3 := HK1.out.2.2.1
            rw [List.take_of_length_le (by omega)] at h1
            exact Lib.hid (by omega)
          obtain ⟨q1, q2⟩ := hx0.out.2
          clear HX hj hjn
          have HD0 : Hid (∀ V, Below W.heap.size W V → V.cell? ⟨Db, 0, none⟩ = some (.int .i64 dd) ∧ V.cell? ⟨Db, 1, none⟩ = some (.int .i64 aa) ∧ V.cell? ⟨Db, 2, none⟩ = some (.slice ca m cc)) :=
            Lib.hid (fun V hV => ⟨(hV.cell hDl).trans d0, (hV.cell hDl).trans d1, (hV.cell hDl).trans d2⟩)
          clear d0 d1 d2
          go_wp2_with fail
          refine (compact_op HK1.out.1).mono ?_
          rintro e W2 ⟨g2, rfl, hp2, hb2⟩
          obtain ⟨d0, d1, d2⟩ := HD0.out W2 hb2
          have HP2 := Lib.hid hp2
          have HB2 := Lib.hid hb2
          have HK2 := Lib.hid (kept2_below HK1.out hb2)
          have HIN2 := Lib.hid (in_below HIN1.out hb2)
          clear hp2 hb2
          go_upto_if 58 with fail
          go_cut [13] from 26 to 212 (fun q wx => ∃ j : Nat, q = .int .i64 j ∧ (j < n ∨ n = 0 ∧ j = 0) ∧ W2 = wx)
          case first =>
            as_aux_lemma =>
            --<
            by_cases h0 : 0 < n
            · have e1 : decide (0 < n) = true := decide_eq_true h0
              obtain ⟨t1, t2⟩ := tmod_in aa h0
              by_cases hneg : aa.tmod n < 0
              · have e2 : decide (aa.tmod n < 0) = true := decide_eq_true hneg
                go_wp2_with fail
                go_meet
                exact ⟨(-(aa.tmod n)).toNat, by rw [Int.toNat_of_nonneg (by omega)], .inl (by omega), rfl⟩
              · have e2 : decide (aa.tmod n < 0) = false := decide_eq_false hneg
                go_wp2_with fail
                go_meet
                exact ⟨(aa.tmod n).toNat, by rw [Int.toNat_of_nonneg (by omega)], .inl (by omega), rfl⟩
            · have e1 : decide (0 < n) = false := decide_eq_false h0
              go_wp2_with fail
              go_meet
              exact ⟨0, rfl, .inr ⟨by omega, rfl⟩, rfl⟩
            -->
          case rest =>
          obtain ⟨j, rfl, hj, rfl⟩ := hcut
          have hand := i64_and3 dd
          have hr4 : dd % 4 < 4 := Int.emod_lt_of_pos _ (by decide)
          have hr0 : 0 ≤ dd % 4 := Int.emod_nonneg _ (by decide)
          generalize dd % 4 = r at hand hr4 hr0
          go_upto_block 4 with fail
          go_cut [10, 11, 12] from 26 to 212 (fun q e nx wx => ∃ (g3 n3 c3 : Nat) (no3 : Option Addr) (ls3 : List (List Nat)), q = .slice (some ⟨g3, 0, none⟩) 512 512 ∧ e = .int .i64 0 ∧ nx = .slice no3 n3 c3 ∧ Hid (Kept2 w wx g3 n3 ls3 no3 c3))
          case first =>
            have hr : r = 0 ∨ r = 1 ∨ r = 2 ∨ r = 3 := by omega
            have hm47 := HIN2.out.2.2
            rw [← HM.out] at hm47
            have hln := Lib.hid HK2.out.2.2.1
            rcases hr with rfl | rfl | rfl | rfl
            · as_aux_lemma =>
              --<
              by_cases hf : 4 * n + tot ls + 4 + m ≤ 486
              · have HI : Hid (Calls Try.prog 7 #[.slice (some ⟨g, 0, none⟩) 512 512, .int .i64 (j : Int), .slice ca m cc] W2 (Made W2 (ls.take j ++ cs :: ls.drop j))) := by
                  rw [HM.out]
                  exact Lib.hid (insert_op HK2.out.1 j (by rw [hln.out]; omega) HIN2.out.1 (by rw [hln.out, ← HM.out]; omega))
                have e1 : decide (x < (m : Int) + 4) = false := decide_eq_false (by have := hx0.out.1; omega)
                go_wp2_with fail
                refine HI.out.mono ?_
                rintro e W3 ⟨g3, rfl, hp3, hb3⟩
                obtain ⟨d0, d1, d2⟩ := HD0.out W3 (HB2.out.trans (hb3.mono HB2.out.size))
                have HK3 := Lib.hid (kept2_below HK2.out hb3)
                have HP3 := Lib.hid hp3
                have HB3 := Lib.hid hb3
                clear hp3 hb3
                go_wp2_with fail
                obtain ⟨vs, hv, hvn, hvs⟩ := kept2_src HK3.out
                have hS1 := fun V => slice_to V no n nc j (by omega) (kept2_form HK3.out)
                obtain ⟨a2, c2, hS2, ha2, hs2⟩ := slice_from no n nc j (by omega) hn1 (kept2_form2 HK3.out)
                obtain ⟨N2, hN2⟩ : ∃ N2, N2 = n - j := ⟨_, rfl⟩
                rw [← hN2] at hS2 ha2
                have HSA : Hid (Src W3 no (vs.take j)) := Lib.hid (src_take hvs j)
                have HSB : Hid (Src W3 a2 (vs.drop j)) := Lib.hid (hs2 W3 vs hvn hvs)
                have HV1 := Lib.hid (vals_take hv j)
                have HV2 := Lib.hid (vals_drop hv j)
                have HL1 : Hid ((vs.take j).length = j) := Lib.hid (by rw [List.length_take]; omega)
                have HL2 : Hid ((vs.drop j).length = N2) := Lib.hid (by rw [List.length_drop]; omega)
                have hN3 : j + 1 + N2 ≤ 1000 := by omega
                have HN1 : Hid (no = none → nc = 0 ∧ j = 0) := Lib.hid (fun h => by have := HK3.out.2.2.2.2.2.1 h; omega)
                have HN2 := Lib.hid ha2
                have HVM : Hid (Vals W3 [.slice ca m cc] [cs]) := by rw [HM.out]; exact Lib.hid (vals_one cc (in_below HIN2.out HB3.out).1)
                clear ha2 hs2 hv hvn hvs hN2
                generalize vs.take j = v1 at HSA HV1 HL1
                generalize vs.drop j = v2 at HSB HV2 HL2
                have HVA : Hid (Vals W3 (v1 ++ [.slice ca m cc] ++ v2) (ls.take j ++ cs :: ls.drop j)) := Lib.hid (by have := vals_append (vals_append HV1.out HVM.out) HV2.out; rwa [List.append_assoc (ls.take j)] at this)
                have hDb3 : Db < W3.heap.size := Nat.lt_of_lt_of_le hDl (HB2.out.trans (HB3.out.mono HB2.out.size)).size
                --@arms 89 92 93 96 97 100 0
                go_region_held3 (fun w' => w'.cell? ⟨Db, 2, none⟩ = some (.slice ca m cc)) (go_keep)
                  (first
                    | ((refine step_append_vals rfl (.tmp 97) (.tmp 100) rfl W3.heap.size g6 (j + 1) c6 (v1 ++ [.slice ca m cc]) (by rfl) HO6.out a2 N2 c2 v2 (by rfl) HL2.out HN2.out (src_below HSB.out (by repeat (first | exact Below.refl _ _ | exact HB6.out | exact HB5.out | refine Below.drew ?_ | refine Below.alloc ?_ (by first | (simp; done) | (have := HB5.out.size; simp; omega)) _))) (vals_cell HV2.out) (j + 1 + N2) rfl (by omega) (by have := HB6.out.size; simp; omega) ?_; intro g7 c7 w7 ho7 hg7; have HO7 := Lib.hid ho7; have HB7 : Hid (Below W3.heap.size W3 w7) := Lib.hid (below_grown (by repeat (first | exact Below.refl _ _ | exact HB6.out | exact HB5.out | refine Below.drew ?_ | refine Below.alloc ?_ (by first | (simp; done) | (have := HB5.out.size; simp; omega)) _)) hg7 (row_cap HO6.out).2.2); have d7 := (HB7.out.cell hDb3).trans d2; clear ho7 hg7))
                    | ((refine step_append_vals rfl (.tmp 89) (.tmp 92) rfl W3.heap.size _ 0 0 [] (by rfl) (by first | exact own_mk W3 | exact (own_mk W3).alloc _ | exact own_mk1 W3 _) no j nc v1 (by rfl) HL1.out HN1.out (src_below HSA.out (by repeat (first | exact Below.refl _ _ | exact HB6.out | exact HB5.out | refine Below.drew ?_ | refine Below.alloc ?_ (by first | (simp; done) | (have := HB5.out.size; simp; omega)) _))) (vals_cell HV1.out) j (Nat.zero_add j) (by omega) (by first | exact Nat.le_refl _ | (simp; done) | (simp; omega)) ?_; intro g5 c5 w5 ho5 hg5; rw [List.nil_append] at ho5; have HO5 := Lib.hid ho5; have HB5 : Hid (Below W3.heap.size W3 w5) := Lib.hid (below_grown (by repeat (first | exact Below.refl _ _ | exact HB6.out | exact HB5.out | refine Below.drew ?_ | refine Below.alloc ?_ (by first | (simp; done) | (have := HB5.out.size; simp; omega)) _)) hg5 (by first | exact Nat.le_refl _ | exact Nat.le_succ _)); have d5 := (HB5.out.cell hDb3).trans d2; (first | (have hq5 : w5.cell? ⟨W3.heap.size + 1, 0, none⟩ = some (.slice ca m cc) := by exact hg5.cell (cell_mk1 W3 _ _ _) (by simp)) | (have hq5 : w5.cell? ⟨W3.heap.size, 0, none⟩ = some (.slice ca m cc) := by exact hg5.cell (cell_mk0 W3 _ _ _) (by simp)) | skip); clear ho5 hg5))
                    | ((refine step_append_vals rfl (.tmp 93) (.tmp 96) rfl W3.heap.size g5 j c5 v1 (by rfl) (by first | exact HO5.out | exact World.ownsRow.alloc HO5.out _) (some ⟨_, 0, none⟩) 1 1 [.slice ca m cc] (by rfl) rfl (fun h => by cases h) (one_cell (by first | exact hq5 | exact cell_mk w5 _ _)) (vals_cell HVM.out) (j + 1) rfl (by omega) (by have := HB5.out.size; simp; omega) ?_; intro g6 c6 w6 ho6 hg6; have HO6 := Lib.hid ho6; have HB6 : Hid (Below W3.heap.size W3 w6) := Lib.hid (below_grown (by repeat (first | exact Below.refl _ _ | exact HB6.out | exact HB5.out | refine Below.drew ?_ | refine Below.alloc ?_ (by first | (simp; done) | (have := HB5.out.size; simp; omega)) _)) hg6 (row_cap HO5.out).2.2); have d6 := (HB6.out.cell hDb3).trans d2; clear ho6 hg6)))
                --@end
                all_goals
                  go_wp2_with fail
                  go_meet
                  exact ⟨g3, _, c7, _, _, rfl, rfl, rfl, Lib.hid (rows_kept HK3.out.2.2.2.2.2.2.1 (pageOf_below HP3.out HB7.out) HB7.out (Below.refl _ _) HO7.out HVA.out)⟩
              · have HI : Hid (Calls Try.prog 7 #[.slice (some ⟨g, 0, none⟩) 512 512, .int .i64 (j : Int), .slice ca m cc] W2 fun e w' => e = .returned (.tuple #[.slice none 0 0, .int .i64 7]) ∧ Below W2.heap.size W2 w') := 
                  Lib.hid (insert_no HK2.out.1 j (by rw [hln.out]; omega) (by unfold maxLen; omega) (by rw [hln.out]; omega))
                have e1 : decide (x < (m : Int) + 4) = true := decide_eq_true (by have := hx0.out.1; omega)
                go_wp2_with fail
                refine HI.out.mono ?_
                rintro e W3 ⟨rfl, hb3⟩
                obtain ⟨d0, d1, d2⟩ := HD0.out W3 (HB2.out.trans (hb3.mono HB2.out.size))
                have HK3 := Lib.hid (kept2_below HK2.out hb3)
                clear hb3
                go_wp2_with fail
                go_roundw
                case rel => exact ⟨k + 1, g, n, nc, no, ls, by omega, by go_num, rfl, rfl, HK3⟩
                case measure => simp [intOf]; omega
              -->
            · as_aux_lemma =>
              --<
              by_cases hn0 : n = 0
              · have e3 : ((n : Int) == 0) = true := beq_iff_eq.2 (by omega)
                go_wp2_with fail
                go_roundw
                case rel => exact ⟨k + 1, g, n, nc, no, ls, by omega, by go_num, rfl, rfl, HK2⟩
                case measure => simp [intOf]; omega
              have e3 : ((n : Int) == 0) = false := beq_eq_false_iff_ne.2 (by omega)
              have hjn : j < n := by omega
              obtain ⟨G, off2, a3, c3, rfl, hcl, hl5, -⟩ := kept2_row HK2.out hjn
              have hjl : j < ls.length := by rw [hln.out]; exact hjn
              have HGD := Lib.hid (getD_get hjl)
              have hwj : IntKind.i64.wrap ((j : Int) + 1) = (j : Int) + 1 := IntWalk.i64_in _ (by omega)
              obtain ⟨W3, hW3⟩ : ∃ W3, W3 = W2 := ⟨_, rfl⟩
              subst hW3
              have HK3 := HK2
              obtain ⟨vs, hv, hvn, hvs⟩ := kept2_src HK3.out
              have hS1 := fun V => slice_to V (some ⟨G, off2, none⟩) n nc j (by omega) (.inr ⟨_, _, rfl⟩)
              obtain ⟨a2, c2, hS2, ha2, hs2⟩ := slice_from (some ⟨G, off2, none⟩) n nc (j + 1) (by omega) hn1 (.inr ⟨_, _, rfl⟩)
              obtain ⟨N2, hN2⟩ : ∃ N2, N2 = n - (j + 1) := ⟨_, rfl⟩
              rw [← hN2, Int.natCast_succ] at hS2
              rw [← hN2] at ha2
              have HSA : Hid (Src W3 (some ⟨G, off2, none⟩) (vs.take j)) := Lib.hid (src_take hvs j)
              have HSB : Hid (Src W3 a2 (vs.drop (j + 1))) := Lib.hid (hs2 W3 vs hvn hvs)
              have HV1 := Lib.hid (vals_take hv j)
              have HV2 := Lib.hid (vals_drop hv (j + 1))
              have HL1 : Hid ((vs.take j).length = j) := Lib.hid (by rw [List.length_take]; omega)
              have HL2 : Hid ((vs.drop (j + 1)).length = N2) := Lib.hid (by rw [List.length_drop]; omega)
              have hN3 : j + 1 + N2 ≤ 1000 := by omega
              have HN1 : Hid ((some ⟨G, off2, none⟩ : Option Addr) = none → nc = 0 ∧ j = 0) := Lib.hid (fun h => by cases h)
              have HN2 := Lib.hid ha2
              have hDb3 : Db < W3.heap.size := Nat.lt_of_lt_of_le hDl HB2.out.size
              clear ha2 hs2 hv hvn hvs hN2
              generalize vs.take j = v1 at HSA HV1 HL1
              generalize vs.drop (j + 1) = v2 at HSB HV2 HL2
              have HRM : Hid (∀ V, Below W3.heap.size W3 V → Calls Try.prog 8 #[.slice (some ⟨g, 0, none⟩) 512 512, .int .i64 (j : Int)] V (Made V (ls.take j ++ ls.drop (j + 1)))) := Lib.hid (fun V hV => remove_op (pageOf_below HK3.out.1 hV) j hjl)
              go_wp2_with fail
              --@arms 108 111 112 116s
              go_region_held3 (fun w' => w'.cell? ⟨Db, 2, none⟩ = some (.slice ca m cc)) (go_keep)
                (first
                  | ((refine step_append_vals rfl (.tmp 112) (.tmp 116) rfl W3.heap.size g5 j c5 v1 (by rfl) HO5.out a2 N2 c2 v2 (by rfl) HL2.out HN2.out (src_below HSB.out (by repeat (first | exact Below.refl _ _ | exact HB6.out | exact HB5.out | refine Below.drew ?_ | refine Below.alloc ?_ (by first | (simp; done) | (have := HB5.out.size; simp; omega)) _))) (vals_cell HV2.out) (j + N2) rfl (by omega) (by have := HB5.out.size; simp; omega) ?_; intro g7 c7 w7 ho7 hg7; have HO7 := Lib.hid ho7; have HB7 : Hid (Below W3.heap.size W3 w7) := Lib.hid (below_grown (by repeat (first | exact Below.refl _ _ | exact HB6.out | exact HB5.out | refine Below.drew ?_ | refine Below.alloc ?_ (by first | (simp; done) | (have := HB5.out.size; simp; omega)) _)) hg7 (row_cap HO5.out).2.2); have d7 := (HB7.out.cell hDb3).trans d2; clear ho7 hg7))
                  | ((refine step_append_vals rfl (.tmp 108) (.tmp 111) rfl W3.heap.size _ 0 0 [] (by rfl) (by first | exact own_mk W3 | exact (own_mk W3).alloc _ | exact own_mk1 W3 _) (some ⟨G, off2, none⟩) j nc v1 (by rfl) HL1.out HN1.out (src_below HSA.out (by repeat (first | exact Below.refl _ _ | exact HB6.out | exact HB5.out | refine Below.drew ?_ | refine Below.alloc ?_ (by first | (simp; done) | (have := HB5.out.size; simp; omega)) _))) (vals_cell HV1.out) j (Nat.zero_add j) (by omega) (by first | exact Nat.le_refl _ | (simp; done) | (simp; omega)) ?_; intro g5 c5 w5 ho5 hg5; rw [List.nil_append] at ho5; have HO5 := Lib.hid ho5; have HB5 : Hid (Below W3.heap.size W3 w5) := Lib.hid (below_grown (by repeat (first | exact Below.refl _ _ | exact HB6.out | exact HB5.out | refine Below.drew ?_ | refine Below.alloc ?_ (by first | (simp; done) | (have := HB5.out.size; simp; omega)) _)) hg5 (by first | exact Nat.le_refl _ | exact Nat.le_succ _)); have d5 := (HB5.out.cell hDb3).trans d2; (first | (have hq5 : w5.cell? ⟨W3.heap.size + 1, 0, none⟩ = some (.slice ca m cc) := by exact hg5.cell (cell_mk1 W3 _ _ _) (by simp)) | (have hq5 : w5.cell? ⟨W3.heap.size, 0, none⟩ = some (.slice ca m cc) := by exact hg5.cell (cell_mk0 W3 _ _ _) (by simp)) | skip); clear ho5 hg5)))
              --@end
              have HDx := HD0.out w7 (HB2.out.trans (HB7.out.mono HB2.out.size))
              obtain ⟨d0', d1', d2'⟩ := HDx
              go_wp2_with fail
              refine (HRM.out w7 HB7.out).mono ?_
              rintro e W8 ⟨g8, rfl, hp8, hb8⟩
              have HK8 := Lib.hid (rows_kept HK3.out.2.2.2.2.2.2.1 hp8 HB7.out hb8 HO7.out (vals_append HV1.out HV2.out))
              clear hp8 hb8
              go_wp2_with fail
              go_meet
              exact ⟨g8, _, c7, _, _, rfl, rfl, rfl, HK8⟩
              -->
            · by_cases hn0 : n = 0
              · have e3 : ((n : Int) == 0) = true := beq_iff_eq.2 (by omega)
                go_wp2_with fail
                go_roundw
                case rel => exact ⟨k + 1, g, n, nc, no, ls, by omega, by go_num, rfl, rfl, HK2⟩
                case measure => simp [intOf]; omega
              have e3 : ((n : Int) == 0) = false := beq_eq_false_iff_ne.2 (by omega)
              have hjn : j < n := by omega
              obtain ⟨G, off2, a3, c3, rfl, hcl, hl5, -⟩ := kept2_row HK2.out hjn
              have hjl : j < ls.length := by rw [hln.out]; exact hjn
              have HGD := Lib.hid (getD_get hjl)
              have hwj : IntKind.i64.wrap ((j : Int) + 1) = (j : Int) + 1 := IntWalk.i64_in _ (by omega)
              obtain ⟨W3, hW3⟩ : ∃ W3, W3 = W2 := ⟨_, rfl⟩
              subst hW3
              have HK3 := HK2
              obtain ⟨vs, hv, hvn, hvs⟩ := kept2_src HK3.out
              have hS1 := fun V => slice_to V (some ⟨G, off2, none⟩) n nc j (by omega) (.inr ⟨_, _, rfl⟩)
              obtain ⟨a2, c2, hS2, ha2, hs2⟩ := slice_from (some ⟨G, off2, none⟩) n nc (j + 1) (by omega) hn1 (.inr ⟨_, _, rfl⟩)
              obtain ⟨N2, hN2⟩ : ∃ N2, N2 = n - (j + 1) := ⟨_, rfl⟩
              rw [← hN2, Int.natCast_succ] at hS2
              rw [← hN2] at ha2
              have HSA : Hid (Src W3 (some ⟨G, off2, none⟩) (vs.take j)) := Lib.hid (src_take hvs j)
              have HSB : Hid (Src W3 a2 (vs.drop (j + 1))) := Lib.hid (hs2 W3 vs hvn hvs)
              have HV1 := Lib.hid (vals_take hv j)
              have HV2 := Lib.hid (vals_drop hv (j + 1))
              have HL1 : Hid ((vs.take j).length = j) := Lib.hid (by rw [List.length_take]; omega)
              have HL2 : Hid ((vs.drop (j + 1)).length = N2) := Lib.hid (by rw [List.length_drop]; omega)
              have hN3 : j + 1 + N2 ≤ 1000 := by omega
              have HN1 : Hid ((some ⟨G, off2, none⟩ : Option Addr) = none → nc = 0 ∧ j = 0) := Lib.hid (fun h => by cases h)
              have HN2 := Lib.hid ha2
              have hDb3 : Db < W3.heap.size := Nat.lt_of_lt_of_le hDl HB2.out.size
              clear ha2 hs2 hv hvn hvs hN2
              generalize vs.take j = v1 at HSA HV1 HL1
              generalize vs.drop (j + 1) = v2 at HSB HV2 HL2
              go_wp2_with fail
              --@arms 108 111 112 116s
              go_region_held3 (fun w' => w'.cell? ⟨Db, 2, none⟩ = some (.slice ca m cc)) (go_keep)
                (first
                  | ((refine step_append_vals rfl (.tmp 112) (.tmp 116) rfl W3.heap.size g5 j c5 v1 (by rfl) HO5.out a2 N2 c2 v2 (by rfl) HL2.out HN2.out (src_below HSB.out (by repeat (first | exact Below.refl _ _ | exact HB6.out | exact HB5.out | refine Below.drew ?_ | refine Below.alloc ?_ (by first | (simp; done) | (have := HB5.out.size; simp; omega)) _))) (vals_cell HV2.out) (j + N2) rfl (by omega) (by have := HB5.out.size; simp; omega) ?_; intro g7 c7 w7 ho7 hg7; have HO7 := Lib.hid ho7; have HB7 : Hid (Below W3.heap.size W3 w7) := Lib.hid (below_grown (by repeat (first | exact Below.refl _ _ | exact HB6.out | exact HB5.out | refine Below.drew ?_ | refine Below.alloc ?_ (by first | (simp; done) | (have := HB5.out.size; simp; omega)) _)) hg7 (row_cap HO5.out).2.2); have d7 := (HB7.out.cell hDb3).trans d2; clear ho7 hg7))
                  | ((refine step_append_vals rfl (.tmp 108) (.tmp 111) rfl W3.heap.size _ 0 0 [] (by rfl) (by first | exact own_mk W3 | exact (own_mk W3).alloc _ | exact own_mk1 W3 _) (some ⟨G, off2, none⟩) j nc v1 (by rfl) HL1.out HN1.out (src_below HSA.out (by repeat (first | exact Below.refl _ _ | exact HB6.out | exact HB5.out | refine Below.drew ?_ | refine Below.alloc ?_ (by first | (simp; done) | (have := HB5.out.size; simp; omega)) _))) (vals_cell HV1.out) j (Nat.zero_add j) (by omega) (by first | exact Nat.le_refl _ | (simp; done) | (simp; omega)) ?_; intro g5 c5 w5 ho5 hg5; rw [List.nil_append] at ho5; have HO5 := Lib.hid ho5; have HB5 : Hid (Below W3.heap.size W3 w5) := Lib.hid (below_grown (by repeat (first | exact Below.refl _ _ | exact HB6.out | exact HB5.out | refine Below.drew ?_ | refine Below.alloc ?_ (by first | (simp; done) | (have := HB5.out.size; simp; omega)) _)) hg5 (by first | exact Nat.le_refl _ | exact Nat.le_succ _)); have d5 := (HB5.out.cell hDb3).trans d2; (first | (have hq5 : w5.cell? ⟨W3.heap.size + 1, 0, none⟩ = some (.slice ca m cc) := by exact hg5.cell (cell_mk1 W3 _ _ _) (by simp)) | (have hq5 : w5.cell? ⟨W3.heap.size, 0, none⟩ = some (.slice ca m cc) := by exact hg5.cell (cell_mk0 W3 _ _ _) (by simp)) | skip); clear ho5 hg5)))
              --@end
              obtain ⟨d0', d1', d2'⟩ := HD0.out w7 (HB2.out.trans (HB7.out.mono HB2.out.size))
              have HKb := Lib.hid (kept2_below HK3.out HB7.out)
              have HINb := Lib.hid (in_below HIN2.out HB7.out)
              have HB7' := Lib.hid (HB2.out.trans (HB7.out.mono HB2.out.size))
              clear hS1 hS2 HSA HSB HV1 HV2 HL1 HL2 hN3 HN1 HN2 d0 d1 d2 HK3 HK2 HIN2 d5 d7 HO5 HO7 HB5
              by_cases hf : 4 * n + tot ls + m ≤ 486 + (ls.getD j []).length
              · have HI : Hid (Calls Try.prog 9 #[.slice (some ⟨g, 0, none⟩) 512 512, .int .i64 (j : Int), .slice ca m cc] w7 (Made w7 (ls.take j ++ cs :: ls.drop (j + 1)))) := by
                  rw [HM.out]
                  exact Lib.hid (replace_op HKb.out.1 j hjl HINb.out.1 (by rw [hln.out, ← HM.out, ← HGD.out]; exact hf))
                have e1 : decide (x < (m : Int) - ((ls.getD j []).length : Int)) = false := decide_eq_false (by have := hx0.out.1; omega)
                go_wp2_with fail
                refine HI.out.mono ?_
                rintro e W8 ⟨g8, rfl, hp8, hb8⟩
                have HB8' := Lib.hid (HB7'.out.trans (hb8.mono HB7'.out.size))
                obtain ⟨d0, d1, d2⟩ := HD0.out W8 HB8'.out
                obtain ⟨G', off', a4, c4, e', hcl8, -, -⟩ := kept2_row (kept2_below HKb.out hb8) hjn
                cases e'
                have HK8 := Lib.hid (kept2_below HKb.out hb8)
                have HP8 := Lib.hid hp8
                have HIN8 := Lib.hid (in_below HINb.out hb8)
                clear hp8 hb8 hcl d0' d1' d2'
                generalize (ls.getD j []).length = z at hcl8 e1 hl5
                go_wp2_with fail
                go_quiet (fail)
                go_wp2_with fail
                have hdn : Below W8.heap.size W8 (W8.drewN nq) := below_drewN (Below.refl _ W8) nq
                have HK3 := Lib.hid (kept2_below HK8.out hdn)
                have HP3 := Lib.hid (pageOf_below HP8.out hdn)
                have HIN3 := Lib.hid (in_below HIN8.out hdn)
                have HB3 := Lib.hid (HB8'.out.trans (hdn.mono HB8'.out.size))
                clear hdn HK8 HP8 HIN8 HB8' HB7' HKb HINb d0 d1 d2 hcl8
                generalize W8.drewN nq = W3 at HK3 HP3 HIN3 HB3 ⊢
                obtain ⟨d0, d1, d2⟩ := HD0.out W3 HB3.out
                obtain ⟨vs, hv, hvn, hvs⟩ := kept2_src HK3.out
                have hS1 := fun V => slice_to V (some ⟨G, off2, none⟩) n nc j (by omega) (.inr ⟨_, _, rfl⟩)
                obtain ⟨a2, c2, hS2, ha2, hs2⟩ := slice_from (some ⟨G, off2, none⟩) n nc (j + 1) (by omega) hn1 (.inr ⟨_, _, rfl⟩)
                obtain ⟨N2, hN2⟩ : ∃ N2, N2 = n - (j + 1) := ⟨_, rfl⟩
                rw [← hN2, Int.natCast_succ] at hS2
                rw [← hN2] at ha2
                have HSA : Hid (Src W3 (some ⟨G, off2, none⟩) (vs.take j)) := Lib.hid (src_take hvs j)
                have HSB : Hid (Src W3 a2 (vs.drop (j + 1))) := Lib.hid (hs2 W3 vs hvn hvs)
                have HV1 := Lib.hid (vals_take hv j)
                have HV2 := Lib.hid (vals_drop hv (j + 1))
                have HL1 : Hid ((vs.take j).length = j) := Lib.hid (by rw [List.length_take]; omega)
                have HL2 : Hid ((vs.drop (j + 1)).length = N2) := Lib.hid (by rw [List.length_drop]; omega)
                have hN3 : j + 1 + N2 ≤ 1000 := by omega
                have HN1 : Hid ((some ⟨G, off2, none⟩ : Option Addr) = none → nc = 0 ∧ j = 0) := Lib.hid (fun h => by cases h)
                have HN2 := Lib.hid ha2
                have HVM : Hid (Vals W3 [.slice ca m cc] [cs]) := by rw [HM.out]; exact Lib.hid (vals_one cc HIN3.out.1)
                have HVA : Hid (Vals W3 (vs.take j ++ [.slice ca m cc] ++ vs.drop (j + 1)) (ls.take j ++ cs :: ls.drop (j + 1))) := Lib.hid (by have := vals_append (vals_append HV1.out HVM.out) HV2.out; rwa [List.append_assoc (ls.take j)] at this)
                have hDb3 : Db < W3.heap.size := Nat.lt_of_lt_of_le hDl HB3.out.size
                clear ha2 hs2 hv hvn hvs hN2
                generalize vs.take j = v1 at HSA HV1 HL1 HVA
                generalize vs.drop (j + 1) = v2 at HSB HV2 HL2 HVA
                --@arms 149 152 153 156 157 161 0s
                go_region_held3 (fun w' => w'.cell? ⟨Db, 2, none⟩ = some (.slice ca m cc)) (go_keep)
                  (first
                    | ((refine step_append_vals rfl (.tmp 157) (.tmp 161) rfl W3.heap.size g6 (j + 1) c6 (v1 ++ [.slice ca m cc]) (by rfl) HO6.out a2 N2 c2 v2 (by rfl) HL2.out HN2.out (src_below HSB.out (by repeat (first | exact Below.refl _ _ | exact HB6.out | exact HB5.out | refine Below.drew ?_ | refine Below.alloc ?_ (by first | (simp; done) | (have := HB5.out.size; simp; omega)) _))) (vals_cell HV2.out) (j + 1 + N2) rfl (by omega) (by have := HB6.out.size; simp; omega) ?_; intro g7 c7 w7 ho7 hg7; have HO7 := Lib.hid ho7; have HB7 : Hid (Below W3.heap.size W3 w7) := Lib.hid (below_grown (by repeat (first | exact Below.refl _ _ | exact HB6.out | exact HB5.out | refine Below.drew ?_ | refine Below.alloc ?_ (by first | (simp; done) | (have := HB5.out.size; simp; omega)) _)) hg7 (row_cap HO6.out).2.2); have d7 := (HB7.out.cell hDb3).trans d2; clear ho7 hg7))
                    | ((refine step_append_vals rfl (.tmp 149) (.tmp 152) rfl W3.heap.size _ 0 0 [] (by rfl) (by first | exact own_mk W3 | exact (own_mk W3).alloc _ | exact own_mk1 W3 _) (some ⟨G, off2, none⟩) j nc v1 (by rfl) HL1.out HN1.out (src_below HSA.out (by repeat (first | exact Below.refl _ _ | exact HB6.out | exact HB5.out | refine Below.drew ?_ | refine Below.alloc ?_ (by first | (simp; done) | (have := HB5.out.size; simp; omega)) _))) (vals_cell HV1.out) j (Nat.zero_add j) (by omega) (by first | exact Nat.le_refl _ | (simp; done) | (simp; omega)) ?_; intro g5 c5 w5 ho5 hg5; rw [List.nil_append] at ho5; have HO5 := Lib.hid ho5; have HB5 : Hid (Below W3.heap.size W3 w5) := Lib.hid (below_grown (by repeat (first | exact Below.refl _ _ | exact HB6.out | exact HB5.out | refine Below.drew ?_ | refine Below.alloc ?_ (by first | (simp; done) | (have := HB5.out.size; simp; omega)) _)) hg5 (by first | exact Nat.le_refl _ | exact Nat.le_succ _)); have d5 := (HB5.out.cell hDb3).trans d2; (first | (have hq5 : w5.cell? ⟨W3.heap.size + 1, 0, none⟩ = some (.slice ca m cc) := by exact hg5.cell (cell_mk1 W3 _ _ _) (by simp)) | (have hq5 : w5.cell? ⟨W3.heap.size, 0, none⟩ = some (.slice ca m cc) := by exact hg5.cell (cell_mk0 W3 _ _ _) (by simp)) | skip); clear ho5 hg5))
                    | ((refine step_append_vals rfl (.tmp 153) (.tmp 156) rfl W3.heap.size g5 j c5 v1 (by rfl) (by first | exact HO5.out | exact World.ownsRow.alloc HO5.out _) (some ⟨_, 0, none⟩) 1 1 [.slice ca m cc] (by rfl) rfl (fun h => by cases h) (one_cell (by first | exact hq5 | exact cell_mk w5 _ _)) (vals_cell HVM.out) (j + 1) rfl (by omega) (by have := HB5.out.size; simp; omega) ?_; intro g6 c6 w6 ho6 hg6; have HO6 := Lib.hid ho6; have HB6 : Hid (Below W3.heap.size W3 w6) := Lib.hid (below_grown (by repeat (first | exact Below.refl _ _ | exact HB6.out | exact HB5.out | refine Below.drew ?_ | refine Below.alloc ?_ (by first | (simp; done) | (have := HB5.out.size; simp; omega)) _)) hg6 (row_cap HO5.out).2.2); have d6 := (HB6.out.cell hDb3).trans d2; clear ho6 hg6)))
                --@end
                all_goals
                  go_wp2_with fail
                  go_meet
                  exact ⟨g8, _, c7, _, _, rfl, rfl, rfl, Lib.hid (rows_kept HK3.out.2.2.2.2.2.2.1 (pageOf_below HP3.out HB7.out) HB7.out (Below.refl _ _) HO7.out HVA.out)⟩
              · have HI : Hid (Calls Try.prog 9 #[.slice (some ⟨g, 0, none⟩) 512 512, .int .i64 (j : Int), .slice ca m cc] w7 fun e w' => e = .returned (.tuple #[.slice none 0 0, .int .i64 7]) ∧ Below w7.heap.size w7 w') := by
                  rw [HM.out]
                  exact Lib.hid (replace_no HKb.out.1 j hjl HINb.out.1 (by rw [hln.out, ← HM.out, ← HGD.out]; omega))
                have e1 : decide (x < (m : Int) - ((ls.getD j []).length : Int)) = true := decide_eq_true (by have := hx0.out.1; omega)
                go_wp2_with fail
                refine HI.out.mono ?_
                rintro e W8 ⟨rfl, hb8⟩
                have HB8' := Lib.hid (HB7'.out.trans (hb8.mono HB7'.out.size))
                obtain ⟨d0, d1, d2⟩ := HD0.out W8 HB8'.out
                obtain ⟨G', off', a4, c4, e', hcl8, -, -⟩ := kept2_row (kept2_below HKb.out hb8) hjn
                cases e'
                have HK8 := Lib.hid (kept2_below HKb.out hb8)
                clear hb8 hcl d0' d1' d2'
                generalize (ls.getD j []).length = z at hcl8 e1 hl5
                go_wp2_with fail
                go_quiet (fail)
                have HK9 := Lib.hid (kept2_below HK8.out (below_drewN (Below.refl _ W8) nq))
                go_wp2_with fail
                go_roundw
                case rel => exact ⟨k + 1, g, n, nc, _, ls, by omega, by go_num, rfl, rfl, HK9⟩
                case measure => simp [intOf]; omega
            · go_wp2_with fail
              go_meet
              exact ⟨g2, n, nc, no, ls, rfl, rfl, rfl, Lib.hid ⟨HP2.out, HK2.out.2⟩⟩
          case rest =>
            as_aux_lemma =>
            obtain ⟨g3, n3, c3, no3, ls3, rfl, rfl, rfl, HK3⟩ := hcut
            clear hand HIN1 HIN2 HK1 HK2 HP2 HB2 HD0 d0 d1 d2 hx0 q1 q2 hn1 hn121 HM
            have hln3 := Lib.hid HK3.out.2.2.1
            have hn3 : n3 ≤ 121 := by have := pageOf_tot HK3.out.1; have := hln3.out; omega
            go_wp2_with fail
            refine (good_op HK3.out.1).mono ?_
            rintro e V1 ⟨rfl, hb⟩
            have HK4 := Lib.hid (kept2_below HK3.out hb)
            clear hb
            go_wp2_with fail
            refine (cells_op HK4.out.1).mono ?_
            rw [hln3.out]
            rintro e V2 ⟨GC, xs, rfl, hr1, hr2, hr3, -, hb⟩
            have HR1 := Lib.hid hr1; have HR2 := Lib.hid hr2; have HR3 := Lib.hid hr3
            have HK5 := Lib.hid (kept2_below HK4.out hb)
            clear hb hr1 hr2 hr3
            go_wp2_with fail
            refine (free_op HK5.out.1).mono ?_
            rw [hln3.out]
            rintro e V3 ⟨rfl, hb⟩
            have HR4 := Lib.hid (rowsPart_below HR1.out hb)
            have HK6 := Lib.hid (kept2_below HK5.out hb)
            have HY : Hid (486 - 4 * (n3 : Int) - (tot ls3 : Int) = 486 - 4 * (n3 : Int) - (tot ls3 : Int) ∧ 0 ≤ 486 - 4 * (n3 : Int) - (tot ls3 : Int)) := by
              have h2 := pageOf_tot HK6.out.1
              have h3 := hln3.out
              exact Lib.hid ⟨rfl, by omega⟩
            obtain ⟨y, hy⟩ : ∃ y : Int, y = 486 - 4 * (n3 : Int) - (tot ls3 : Int) := ⟨_, rfl⟩
            rw [← hy] at HY ⊢
            have HYE := Lib.hid hy
            clear hb hy HR1 HK3 HK4 HK5 HY
            go_wp2_with fail
            go_loop [18, 19] (fun s i => ∃ (j : Nat) (x : Int), j ≤ n3 ∧ i = .int .i64 j ∧ s = .int .i64 x ∧ Hid (x = 486 - 4 * (j : Int) - (tot (ls3.take j) : Int))) (fun _ i => (n3 - (intOf i)).toNat)
            case atStart => exact ⟨0, 486, by omega, rfl, rfl, Lib.hid (by simp [tot])⟩
            case round =>
              obtain ⟨j, x, hj, rfl, rfl, HX⟩ := hrel
              by_cases hjn : j < n3
              · obtain ⟨G, off2, a2, c2, rfl, hcl, hl5, ht⟩ := kept2_row HK6.out hjn
                have hxb : -100000 ≤ x ∧ x ≤ 486 := by
                  have h1 := HX.out
                  have h2 := tot_take ls3 j
                  have h3 := pageOf_tot HK6.out.1
                  omega
                obtain ⟨h1, h2⟩ := hxb
                have HX2 : Hid (x - 4 - ((ls3.getD j []).length : Int) = 486 - 4 * ((j + 1 : Nat) : Int) - (tot (ls3.take (j + 1)) : Int)) := Lib.hid (by rw [HX.out, ht]; omega)
                generalize (ls3.getD j []).length = z at hcl hl5 HX2 ht
                clear ht
                go_wp2
                go_round
                case rel => exact ⟨j + 1, _, by omega, by go_num, rfl, HX2⟩
                case measure => simp [intOf]; omega
              · obtain rfl : n3 = j := by omega
                obtain rfl : y = x := by
                  have h1 := HX.out
                  have h2 := HYE.out
                  rw [List.take_of_length_le (by rw [hln3.out]; omega)] at h1
                  omega
                clear HX HYE hj hjn
                go_wp2_with fail
                refine (lists_rows HR4.out HR2.out HR3.out HK6.out.2.1 (pageOf_short HK6.out.1) (by omega)).mono ?_
                rintro e V4 ⟨rfl, hb⟩
                have HK7 := Lib.hid (kept2_below HK6.out hb)
                clear hb
                go_wp2_with fail
                go_roundw
                case rel => exact ⟨k + 1, g3, n3, c3, no3, ls3, by omega, by go_num, rfl, rfl, HK7⟩
                case measure => simp [intOf]; omega
    · obtain rfl : k = len := by omega
      go_wp2
      go_ret
      exact ⟨rfl, HK.out.2.2.2.2.2.2.1⟩
end Go.Proofs.Ytaadeoobmclpcaa

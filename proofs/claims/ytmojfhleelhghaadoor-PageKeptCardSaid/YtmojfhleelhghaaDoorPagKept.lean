/- R4: pages and cells that are handed in stay: the walk. -/
import Derived.Test.YtmojfhleelhghaaDoorPagKeptC
namespace Go.Proofs.YtmojfhleelhghaaDoor
open Go.ChangeShapes Go.WideShapes Go.ChangeAt Go.RowKit

attribute [local irreducible] RV
set_option maxHeartbeats 2000000 in
set_option maxRecDepth 100000 in
theorem kept_walk {a ca : Option Addr} {cap ccap : Nat} {l cs : List Nat} (i : Int) {w : World} (hp : In w a cap l) (hc : In w ca ccap cs) (hT : TabAt w) :
    Calls Tryd.prog 6 #[.slice a l.length cap, .int .i64 i, .slice ca cs.length ccap] w fun e w' => e = .returned (.bool true) ∧ Below w.heap.size w w' := by
  have HP := Lib.hid hp; have HCC := Lib.hid hc; have HT := Lib.hid hT
  have hn47 := hp.2.2
  have hm47 := hc.2.2
  obtain ⟨n, hn⟩ : ∃ n, n = l.length := ⟨_, rfl⟩
  obtain ⟨m, hm⟩ : ∃ m, m = cs.length := ⟨_, rfl⟩
  rw [← hn] at hn47 ⊢
  rw [← hm] at hm47 ⊢
  have HN := Lib.hid hn; have HM := Lib.hid hm
  have HNA : Hid (a = none → cap = 0) := Lib.hid hp.2.1
  have HMA : Hid (ca = none → ccap = 0) := Lib.hid hc.2.1
  have HMX : Hid (∀ k, k ≤ 140737488355328 → k ≤ maxLen) := Lib.hid (fun k h => by unfold maxLen; omega)
  clear hp hc hT hn hm
  obtain ⟨i0, hi, hz0, hz1, hz2⟩ := info_parts info5
  obtain ⟨j0, hj, hj0, hj1, hj2⟩ := info_parts info22
  go_enter Tryd.func6, Tryd.ntmps6
  go_wp2_with (first | (at_builtin; refine wpList_append_opt rfl (.tmp 41) (.tmp 42) rfl w2.heap.size g3 m c3 ([] ++ cs) rfl (HO3.out.alloc _) (some ⟨w3.heap.size, 0, none⟩) 1 1 (m + 1) rfl [202] rfl rfl (fun h => by cases h) (bytes_alloc w3 [202] (by decide) (by unfold maxLen; decide) (0, 0)) (HMX.out _ (by omega)) (by omega) (Nat.le_trans HB3'.out.size (Nat.le_of_lt (by simp))) ?_; intro g4 c4 w4 ho hg; have HO4 : Hid (Copied w2.heap.size w4 cs 202 g4 c4) := Lib.hid (by (have h := ho; rw [List.nil_append, HM.out] at h; exact h)); have hcx4 := (row_cap ho).1; have HB4' : Hid (Below w2.heap.size w2 w4) := Lib.hid ((HB3'.out.alloc HB3'.out.size _).grown hg (Nat.le_trans HB3'.out.size (Nat.le_of_lt (by simp))) (fun k hk => by cases hk; exact (row_cap HO3.out).2.2)); have HB4 : Hid (Below w.heap.size w w4) := Lib.hid (HB2.out.trans (HB4'.out.mono HB2.out.size)); clear ho hg) | (at_builtin; refine wpList_append_opt rfl (.tmp 39) (.tmp 40) rfl w2.heap.size w2.heap.size 0 0 [] rfl (own_empty w2) ca m ccap m (Nat.zero_add m) cs rfl HM.out.symm HMA.out (bytes_below (bytes_below HCC.out.1 HB2.out) (below_alloc w2 _)) (HMX.out _ (by omega)) (by omega) (below_alloc w2 _).size ?_; intro g3 c3 w3 ho hg; have HO3 := Lib.hid ho; have HB3' : Hid (Below w2.heap.size w2 w3) := Lib.hid ((below_alloc w2 _).grown hg (below_alloc w2 _).size (fun k hk => by cases hk; exact Nat.le_refl _)); clear ho hg) | (at_builtin; refine wpList_append_opt rfl (.tmp 33) (.tmp 34) rfl w0.heap.size g1 n c1 ([] ++ l) rfl (HO1.out.alloc _) (some ⟨w1.heap.size, 0, none⟩) 1 1 (n + 1) rfl [201] rfl rfl (fun h => by cases h) (bytes_alloc w1 [201] (by decide) (by unfold maxLen; decide) (0, 0)) (HMX.out _ (by omega)) (by omega) (Nat.le_trans HB1'.out.size (Nat.le_of_lt (by simp))) ?_; intro g2 c2 w2 ho hg; have HO2 : Hid (Copied w0.heap.size w2 l 201 g2 c2) := Lib.hid (by (have h := ho; rw [List.nil_append, HN.out] at h; exact h)); have hcx2 := (row_cap ho).1; have HB2' : Hid (Below w0.heap.size w0 w2) := Lib.hid ((HB1'.out.alloc HB1'.out.size _).grown hg (Nat.le_trans HB1'.out.size (Nat.le_of_lt (by simp))) (fun k hk => by cases hk; exact (row_cap HO1.out).2.2)); have HB2 : Hid (Below w.heap.size w w2) := Lib.hid (HB0.out.trans (HB2'.out.mono HB0.out.size)); clear ho hg) | (at_builtin; refine wpList_append_opt rfl (.tmp 31) (.tmp 32) rfl w0.heap.size w0.heap.size 0 0 [] rfl (own_empty w0) a n cap n (Nat.zero_add n) l rfl HN.out.symm HNA.out (bytes_below (bytes_below HP.out.1 HB0.out) (below_alloc w0 _)) (HMX.out _ (by omega)) (by omega) (below_alloc w0 _).size ?_; intro g1 c1 w1 ho hg; have HO1 := Lib.hid ho; have HB1' : Hid (Below w0.heap.size w0 w1) := Lib.hid ((below_alloc w0 _).grown hg (below_alloc w0 _).size (fun k hk => by cases hk; exact Nat.le_refl _)); clear ho hg) | (go_at_call 13; refine (awake_any w).mono ?_; rintro e w0 ⟨rfl, hb0⟩; have HB0 := Lib.hid hb0; clear hb0))
  have HX : Hid (BytesAt w4 (some ⟨g2, 0, none⟩) (l ++ [201])) := Lib.hid (bytes_below (copied_bytes HO2.out HP.out.1.1 (by decide)) HB4'.out)
  have HD0 : Hid (BytesAt w4 (some ⟨g4, 0, none⟩) (cs ++ [202])) := Lib.hid (copied_bytes HO4.out HCC.out.1.1 (by decide))
  have HC2 : Hid (l.length ≤ c2 ∧ c2 ≤ maxLen) := Lib.hid ⟨by have := (row_cap HO2.out).1; omega, (row_cap HO2.out).2.1⟩
  have HK1 : Hid (∀ V, Below w4.heap.size w4 V → Calls Tryd.prog 9 #[.slice (some ⟨g2, 0, none⟩) n c2, .int .i64 i, .slice (some ⟨g4, 0, none⟩) m c4] V (Kept V)) := Lib.hid (fun V hV => by
    rw [HN.out, HM.out]; exact kept_insert i (bytes_prefix (bytes_below HX.out hV)) HC2.out.1 HC2.out.2 (bytes_prefix (bytes_below HD0.out hV)))
  have HK2 : Hid (∀ V, Below w4.heap.size w4 V → Calls Tryd.prog 10 #[.slice (some ⟨g2, 0, none⟩) n c2, .int .i64 i] V (Kept V)) := Lib.hid (fun V hV => by
    rw [HN.out]; exact kept_remove i (bytes_prefix (bytes_below HX.out hV)))
  have HK3 : Hid (∀ V, Below w4.heap.size w4 V → Calls Tryd.prog 35 #[.slice (some ⟨g2, 0, none⟩) n c2, .int .i64 i, .slice (some ⟨g4, 0, none⟩) m c4] V (Kept V)) := Lib.hid (fun V hV => by
    rw [HN.out, HM.out]; exact kept_replace i (bytes_prefix (bytes_below HX.out hV)) (bytes_prefix (bytes_below HD0.out hV)))
  have HK4 : Hid (∀ V, Below w4.heap.size w4 V → Calls Tryd.prog 24 #[.slice (some ⟨g2, 0, none⟩) n c2] V (Kept V)) := Lib.hid (fun V hV => by
    rw [HN.out]; exact kept_compact (bytes_prefix (bytes_below HX.out hV)) HC2.out.1 HC2.out.2)
  have HK5 : Hid (∀ V, Below w4.heap.size w4 V → Calls Tryd.prog 12 #[.slice (some ⟨g2, 0, none⟩) n c2, .int .u64 9] V (Kept V)) := Lib.hid (fun V hV => by
    rw [HN.out]; exact kept_seal 9 (by decide) (bytes_prefix (bytes_below HX.out hV)) (tab_below (tab_below HT.out HB4.out) hV))
  have HK6 : Hid (∀ V, Below w4.heap.size w4 V → Calls Tryd.prog 25 #[.slice (some ⟨g2, 0, none⟩) n c2, .int .i64 1, .int .i64 2] V (Kept V)) := Lib.hid (fun V hV => by
    rw [HN.out]; exact kept_set (bytes_prefix (bytes_below HX.out hV)))
  have HK7 : Hid (∀ V, Below w4.heap.size w4 V → Calls Tryd.prog 17 #[.slice (some ⟨g2, 0, none⟩) n c2, .int .i64 i] V (Kept V)) := Lib.hid (fun V hV => by
    rw [HN.out]; exact kept_cell i (bytes_prefix (bytes_below HX.out hV)) HC2.out.1 HC2.out.2)
  have HK8 : Hid (∀ V, Below w4.heap.size w4 V → Calls Tryd.prog 18 #[.slice (some ⟨g2, 0, none⟩) n c2] V (KeptAll V)) := Lib.hid (fun V hV => by
    rw [HN.out]; exact kept_cells (bytes_prefix (bytes_below HX.out hV)) HC2.out.1 HC2.out.2)
  have HR4 := Lib.hid (rows_nil w4)
  refine (HK1.out w4 HR4.out.2.2).mono ?_
  rintro e w5 ⟨r1, e1, rfl, hr, hb⟩
  have HR5 := Lib.hid (rows_more HR4.out hr hb)
  obtain ⟨a1, k1, hv⟩ := rv_form r1
  rw [hv]
  have HV1 := Lib.hid hv
  clear hv hr hb HR4 HK1
  go_wp2_with fail
  refine (HK2.out w5 HR5.out.2.2).mono ?_
  rintro e w6 ⟨r2, e2, rfl, hr, hb⟩
  have HR6 := Lib.hid (rows_more HR5.out hr hb)
  obtain ⟨a2, k2, hv⟩ := rv_form r2
  rw [hv]
  have HV2 := Lib.hid hv
  clear hv hr hb HR5 HK2
  go_wp2_with fail
  refine (HK3.out w6 HR6.out.2.2).mono ?_
  rintro e w7 ⟨r3, e3, rfl, hr, hb⟩
  have HR7 := Lib.hid (rows_more HR6.out hr hb)
  obtain ⟨a3, k3, hv⟩ := rv_form r3
  rw [hv]
  have HV3 := Lib.hid hv
  clear hv hr hb HR6 HK3
  go_wp2_with fail
  refine (HK4.out w7 HR7.out.2.2).mono ?_
  rintro e w8 ⟨r4, e4, rfl, hr, hb⟩
  have HR8 := Lib.hid (rows_more HR7.out hr hb)
  obtain ⟨a4, k4, hv⟩ := rv_form r4
  rw [hv]
  have HV4 := Lib.hid hv
  clear hv hr hb HR7 HK4
  go_wp2_with fail
  refine (HK5.out w8 HR8.out.2.2).mono ?_
  rintro e w9 ⟨r5, e5, rfl, hr, hb⟩
  have HR9 := Lib.hid (rows_more HR8.out hr hb)
  obtain ⟨a5, k5, hv⟩ := rv_form r5
  rw [hv]
  have HV5 := Lib.hid hv
  clear hv hr hb HR8 HK5
  go_wp2_with fail
  refine (HK6.out w9 HR9.out.2.2).mono ?_
  rintro e w10 ⟨r6, e6, rfl, hr, hb⟩
  have HR10 := Lib.hid (rows_more HR9.out hr hb)
  obtain ⟨a6, k6, hv⟩ := rv_form r6
  rw [hv]
  have HV6 := Lib.hid hv
  clear hv hr hb HR9 HK6
  go_wp2_with fail
  refine (HK7.out w10 HR10.out.2.2).mono ?_
  rintro e w11 ⟨r7, e7, rfl, hr, hb⟩
  have HR11 := Lib.hid (rows_more HR10.out hr hb)
  obtain ⟨a7, k7, hv⟩ := rv_form r7
  rw [hv]
  have HV7 := Lib.hid hv
  clear hv hr hb HR10 HK7
  simp only [List.nil_append, List.cons_append] at HR11
  go_wp2_with fail
  refine (HK8.out w11 HR11.out.2.2).mono ?_
  rintro e w12 hka
  obtain ⟨ao, e8, rs, rfl, hao, hcl, hra, hnd, hrl, hb⟩ := kept_all hka
  have HR12 : Hid (Rows w4 w12 (rs ++ [r1, r2, r3, r4, r5, r6, r7])) := Lib.hid (rows_join HR11.out hra hnd hb)
  have HAO := Lib.hid hao
  have HCL := Lib.hid hcl
  obtain ⟨q, hq⟩ : ∃ q, q = rs.length := ⟨_, rfl⟩
  rw [← hq] at HAO hrl ⊢
  have HQ := Lib.hid hq
  clear hka hao hcl hra hnd hb hq HK8 HR11
  obtain ⟨N, hN⟩ : ∃ N, N = q + 7 := ⟨_, rfl⟩
  have hN7 : 7 ≤ N ∧ N ≤ 519 := by omega
  obtain ⟨R, hR⟩ : ∃ R, R = rs ++ [r1, r2, r3, r4, r5, r6, r7] := ⟨_, rfl⟩
  have HRN : Hid (R.length = N) := Lib.hid (by rw [hR, List.length_append, hN, HQ.out]; rfl)
  have HRM : Hid (rs.map RV ++ [Value.slice a1 k1 k1, Value.slice a2 k2 k2, Value.slice a3 k3 k3, Value.slice a4 k4 k4, Value.slice a5 k5 k5, Value.slice a6 k6 k6, Value.slice a7 k7 k7] = R.map RV) := Lib.hid (by rw [hR, List.map_append]; simp only [List.map_cons, List.map_nil, HV1.out, HV2.out, HV3.out, HV4.out, HV5.out, HV6.out, HV7.out])
  rw [← hR] at HR12
  have HRL : Hid ((rs.map RV).length = q * 1) := Lib.hid (by rw [List.length_map, Nat.mul_one]; exact HQ.out.symm)
  have HOLD : Hid (∀ b, ao = some b → ∀ j u, (rs.map RV)[j]? = some u → (w12.alloc (.cells ([Value.slice a1 k1 k1, Value.slice a2 k2 k2, Value.slice a3 k3 k3, Value.slice a4 k4 k4, Value.slice a5 k5 k5, Value.slice a6 k6 k6, Value.slice a7 k7 k7] : List Value).toArray 22)).cell? (b.add j) = some u) := Lib.hid (fun b hb j u hu => alloc_old (HCL.out b hb j u hu))
  have HNEW : Hid (∀ j u, ([Value.slice a1 k1 k1, Value.slice a2 k2 k2, Value.slice a3 k3 k3, Value.slice a4 k4 k4, Value.slice a5 k5 k5, Value.slice a6 k6 k6, Value.slice a7 k7 k7] : List Value)[j]? = some u → (w12.alloc (.cells ([Value.slice a1 k1 k1, Value.slice a2 k2 k2, Value.slice a3 k3 k3, Value.slice a4 k4 k4, Value.slice a5 k5 k5, Value.slice a6 k6 k6, Value.slice a7 k7 k7] : List Value).toArray 22)).cell? ((⟨w12.heap.size, 0, none⟩ : Addr).add j) = some u) := Lib.hid (alloc_new w12 22 _)
  have HONE : Hid (∀ u ∈ ([Value.slice a1 k1 k1, Value.slice a2 k2 k2, Value.slice a3 k3 k3, Value.slice a4 k4 k4, Value.slice a5 k5 k5, Value.slice a6 k6 k6, Value.slice a7 k7 k7] : List Value), u.oneCell' = true) := Lib.hid (by
    intro u hu
    have : ∃ r, u = RV r := by
      simp only [← HV1.out, ← HV2.out, ← HV3.out, ← HV4.out, ← HV5.out, ← HV6.out, ← HV7.out, List.mem_cons, List.not_mem_nil, or_false] at hu
      rcases hu with h | h | h | h | h | h | h <;> exact ⟨_, h⟩
    obtain ⟨r, rfl⟩ := this
    exact rv_one r)
  have HN7 := Lib.hid hN
  clear hR hN HV1 HV2 HV3 HV4 HV5 HV6 HV7
  go_wp2_with (at_builtin; refine wpList_append_grows _ rfl (.tmp 93) (.tmp 101) 35 rfl 22 j0 (.slice none 0 0) 1 24 Tryd.underlying35 hj hj0 hj1 hj2 rfl (by decide) ao q q (rs.map RV) rfl HAO.out HRL.out HOLD.out ⟨w12.heap.size, 0, none⟩ 7 7 [Value.slice a1 k1 k1, Value.slice a2 k2 k2, Value.slice a3 k3 k3, Value.slice a4 k4 k4, Value.slice a5 k5 k5, Value.slice a6 k6 k6, Value.slice a7 k7 k7] rfl rfl HNEW.out HONE.out (by omega) (HMX.out _ (by omega)) (by omega) ?_; intro v13 w13 ho hg; rw [← HN7.out, HRM.out] at ho; obtain ⟨G, cG, rfl, hcG, hst⟩ := st_start HR12.out ((below_alloc w12 _).grown hg (below_alloc w12 _).size (fun k hk => by cases hk)) ho HRN.out rfl (below_alloc w12 _).size (by omega); have HST := Lib.hid hst; have HRNd : Hid ((R.filterMap (·.1)).Nodup) := Lib.hid HR12.out.2.1; have HR5 : Hid (∀ r ∈ R, r.2.length ≤ 512) := Lib.hid (fun r hr => by (rcases HR12.out.1 r hr with ⟨_, h⟩ | ⟨_, _, _, _, h⟩; (rw [h]; exact Nat.zero_le _); exact h)); clear ho hg hst)
  clear HNEW HOLD HRL HONE HAO HCL HR12 HRM HQ hrl
  obtain ⟨B, hB⟩ : ∃ B, B = w13.heap.size := ⟨_, rfl⟩
  rw [← hB] at HST
  clear hB
  have HF0 : Hid (∃ f, St w4 w13 B G R 0 f) := Lib.hid ⟨_, HST.out⟩
  clear HST
  go_loopw [25, 26] (fun x _ wr => ∃ k : Nat, k ≤ N ∧ x = .int .i64 k ∧ Hid (∃ f, St w4 wr B G R k f)) (fun x _ _ => (N - (intOf x)).toNat)
  case atStart => exact ⟨0, by omega, rfl, HF0⟩
  case round =>
    obtain ⟨k, hk, rfl, HS⟩ := hrel
    by_cases hlt : k < N
    · obtain ⟨f, hf⟩ := HS.out
      have hkR : k < R.length := by rw [HRN.out]; exact hlt
      obtain ⟨r, hr⟩ : ∃ r, r = R[k] := ⟨_, rfl⟩
      have HRK := Lib.hid hr
      have hfk := (hf.2.2.2.2.2.2 k hkR (Nat.le_refl _)).1
      have HSF := Lib.hid hf
      clear hr hf HS
      rcases h1 : r.1 with _ | g
      · have hr2 : r.2 = [] := by
          rcases (HSF.out.2.2.2.2.2.2 k hkR (Nat.le_refl _)).2 with ⟨_, h⟩ | ⟨g, h, _⟩
          · rw [HRK.out]; exact h
          · rw [← HRK.out, h1] at h; cases h
        have hv : f k = .slice none 0 0 := by rw [hfk, ← HRK.out, RV, h1]
        have HV := Lib.hid hv
        have HR2 := Lib.hid hr2
        clear hfk h1 hv hr2
        go_wp2
        go_loopw [26] (fun y wi => y = .int .i64 0 ∧ Hid (St w4 wi B G R k f)) (fun _ _ => 0)
        case atStart => exact ⟨rfl, HSF⟩
        case round =>
          obtain ⟨rfl, HSI⟩ := hrel
          have cG : wr.cell? ⟨G, k, none⟩ = some (.slice none 0 0) := by rw [← HV.out]; exact tab_get HSI.out.1 hkR
          go_wp2_with (at_builtin; go_must (refine wpList_append_grows _ rfl (.tmp 132) (.tmp 133) 22 rfl 5 i0 (.int .u8 0) 1 1 Tryd.underlying22 hi hz0 hz1 hz2 rfl (by decide) none 0 0 (u8s []) rfl (fun _ => ⟨rfl, rfl⟩) rfl (fun b hb => by cases hb) ⟨wr.heap.size, 0, none⟩ 1 1 [.int .u8 99] rfl rfl (alloc_new wr 5 [.int .u8 99]) (u8s_one [99]) (by omega) (HMX.out _ (by omega)) (by omega) ?_; intro v2 w2 ho hg; obtain ⟨gv, cv, rfl⟩ := row_form ho (Nat.succ_ne_zero _); have HNX : Hid (St w4 (w2.setCell ⟨G, k, none⟩ (.slice (some ⟨gv, 0, none⟩) (0 + 1) cv)) B G R (k + 1) (upd f k (.slice (some ⟨gv, 0, none⟩) (0 + 1) cv))) := Lib.hid (st_next (st_rest HSI.out) ((below_alloc wr _).grown hg (below_alloc wr _).size (fun k hk => by cases hk)) hkR (by rw [← HRK.out, HR2.out]) (by (have h := ho; rw [show u8s [] ++ [Value.int .u8 99] = u8s (List.replicate 0 ((k + 1) % 256) ++ [99]) from rfl] at h; exact h)) (Nat.le_trans HSI.out.2.2.1 (below_alloc wr _).size)); have hold : w2.cell? ⟨G, k, none⟩ = some (Value.slice (none) 0 0) := (((below_alloc wr (.cells #[.int .u8 99] 5)).grown hg (below_alloc wr _).size (fun k hk => by cases hk)).cell (World.block_lt_of_cell? wr _ cG)).trans cG; have hfz : w2.frozen? ⟨G, k, none⟩ = false := tab_frozen (tabl_below HSI.out.1 ((below_alloc wr _).grown hg (below_alloc wr _).size (fun k hk => by cases hk))) k; clear ho hg cG))
          go_roundw
          case rel => exact ⟨k + 1, by omega, by go_num, Lib.hid ⟨_, HNX.out⟩⟩
          case measure => simp [intOf]; omega
      · obtain ⟨L, hL⟩ : ∃ L, L = r.2.length := ⟨_, rfl⟩
        have hv : f k = .slice (some ⟨g, 0, none⟩) L L := by rw [hfk, ← HRK.out, RV, h1, hL]
        have HV := Lib.hid hv
        have hl5 : L ≤ 512 := by rw [hL, HRK.out]; exact HR5.out _ (List.getElem_mem hkR)
        have HLR : Hid (L = R[k].2.length) := Lib.hid (by rw [hL, HRK.out])
        have HG1 : Hid (R[k].1 = some g) := Lib.hid (by rw [← HRK.out]; exact h1)
        have HFL : Hid ((u8s (fillTo r.2 L ((k + 1) % 256))).length = L * 1) := Lib.hid (by rw [u8s, List.length_map, fillTo_length (by omega), Nat.mul_one]; exact hL.symm)
        have HFILL : Hid (u8s (fillTo r.2 L ((k + 1) % 256)) ++ [Value.int .u8 99] = u8s (List.replicate L ((k + 1) % 256) ++ [99])) := Lib.hid (by rw [hL, fillTo_all]; simp [u8s])
        have HMI : Hid (Mid w4 _ B G R k f g 0 r.2) := Lib.hid (by rw [HRK.out]; exact st_mid HSF.out HG1.out)
        have HL2 := Lib.hid hL
        clear hfk h1 hv hL
        go_wp2
        go_loopw [26] (fun y wi => ∃ m', m' ≤ L ∧ y = .int .i64 m' ∧ Hid (Mid w4 wi B G R k f g m' r.2)) (fun y _ => (L - (intOf y)).toNat)
        case atStart => exact ⟨0, Nat.zero_le _, rfl, HMI⟩
        case round =>
          obtain ⟨m', hm', rfl, HSI⟩ := hrel
          have cG : wr.cell? ⟨G, k, none⟩ = some (.slice (some ⟨g, 0, none⟩) L L) := by rw [← HV.out]; exact tab_get HSI.out.1 hkR
          by_cases hml : m' < L
          · have hold := cell_of_row wr g m' _ _ _ HSI.out.2.2.2.2.2.2.2.1
            rw [u8c_get _ _ (by rw [fillTo_length (by rw [← HL2.out]; exact hm')]; rw [← HL2.out]; exact hml)] at hold
            have hfz := frozen_of_row wr g m' _ _ HSI.out.2.2.2.2.2.2.2.1
            have HNX : Hid (Mid w4 (wr.setCell ⟨g, m', none⟩ (.int .u8 (((k + 1) % 256 : Nat) : Int))) B G R k f g (m' + 1) r.2) := Lib.hid (by
              rw [HRK.out]; rw [HRK.out] at HSI HL2
              exact mid_step HRNd.out HG1.out HSI.out (by rw [← HL2.out]; exact hml))
            go_wp2
            go_roundw
            case rel => exact ⟨m' + 1, by omega, by go_num, HNX⟩
            case measure => simp [intOf]; omega
          · obtain rfl : m' = L := by omega
            go_wp2_with (at_builtin; go_must (refine wpList_append_grows _ rfl (.tmp 132) (.tmp 133) 22 rfl 5 i0 (.int .u8 0) 1 1 Tryd.underlying22 hi hz0 hz1 hz2 rfl (by decide) (some ⟨g, 0, none⟩) m' m' (u8s (fillTo r.2 m' ((k + 1) % 256))) rfl (fun h => by cases h) HFL.out (fun b hb j u hu => by (cases hb; exact alloc_old (cells_list HSI.out.2.2.2.2.2.2.2.1 j u hu))) ⟨wr.heap.size, 0, none⟩ 1 1 [.int .u8 99] rfl rfl (alloc_new wr 5 [.int .u8 99]) (u8s_one [99]) (by omega) (HMX.out _ (by omega)) (by omega) ?_; intro v2 w2 ho hg; obtain ⟨gv, cv, rfl⟩ := row_form ho (Nat.succ_ne_zero _); have HNX : Hid (St w4 (w2.setCell ⟨G, k, none⟩ (.slice (some ⟨gv, 0, none⟩) (m' + 1) cv)) B G R (k + 1) (upd f k (.slice (some ⟨gv, 0, none⟩) (m' + 1) cv))) := Lib.hid (st_next (mid_rest HSI.out) ((below_alloc wr _).grown hg (below_alloc wr _).size (fun k hk => by cases hk)) hkR HLR.out (by (have h := ho; rw [show u8s (fillTo r.2 m' ((k + 1) % 256)) ++ [Value.int .u8 99] = u8s (List.replicate m' ((k + 1) % 256) ++ [99]) from HFILL.out] at h; exact h)) (Nat.le_trans HSI.out.2.2.1 (below_alloc wr _).size)); have hold : w2.cell? ⟨G, k, none⟩ = some (Value.slice ((some ⟨g, 0, none⟩)) m' m') := (((below_alloc wr (.cells #[.int .u8 99] 5)).grown hg (below_alloc wr _).size (fun k hk => by cases hk)).cell (World.block_lt_of_cell? wr _ cG)).trans cG; have hfz : w2.frozen? ⟨G, k, none⟩ = false := tab_frozen (tabl_below HSI.out.1 ((below_alloc wr _).grown hg (below_alloc wr _).size (fun k hk => by cases hk))) k; clear ho hg cG))
            go_roundw
            case rel => exact ⟨k + 1, by omega, by go_num, Lib.hid ⟨_, HNX.out⟩⟩
            case measure => simp [intOf]; omega
    · obtain rfl : k = N := by omega
      obtain ⟨f, hf⟩ := HS.out
      have HD : Hid (∀ j, (hj : j < R.length) → Done wr B R[j].2.length j (f j)) := Lib.hid (fun j hj => hf.2.2.2.2.2.1 j hj (by rw [← HRN.out]; exact hj))
      have HTB := Lib.hid hf.1
      have HBW : Hid (Below w4.heap.size w4 wr) := Lib.hid hf.2.2.2.1
      clear hf HS
      have HEX : Hid (BytesAt wr (some ⟨g2, 0, none⟩) (l ++ [201])) := Lib.hid (bytes_below HX.out HBW.out)
      have HED : Hid (BytesAt wr (some ⟨g4, 0, none⟩) (cs ++ [202])) := Lib.hid (bytes_below HD0.out HBW.out)
      have HBA : Hid (Below w.heap.size w wr) := Lib.hid (HB4.out.trans (HBW.out.mono HB4.out.size))
      have HEP : Hid (BytesAt wr a l) := Lib.hid (bytes_below HP.out.1 HBA.out)
      have HEC : Hid (BytesAt wr ca cs) := Lib.hid (bytes_below HCC.out.1 HBA.out)
      go_wp2
      go_loop [27, 28] (fun x _ => ∃ k', k' ≤ k ∧ x = .int .i64 k') (fun x _ => (k - (intOf x)).toNat)
      case atStart => exact ⟨0, Nat.zero_le _, rfl⟩
      case round =>
        obtain ⟨k', hk', rfl⟩ := hrel
        by_cases hlt' : k' < k
        · have hkR : k' < R.length := by rw [HRN.out]; exact hlt'
          obtain ⟨h, c, hv, hB, hcc, hby⟩ := HD.out k' hkR
          obtain ⟨L, hL⟩ : ∃ L, L = R[k'].2.length := ⟨_, rfl⟩
          have hl5 : L ≤ 512 := by rw [hL]; exact HR5.out _ (List.getElem_mem hkR)
          rw [← hL] at hv hcc hby
          have cG : wr.cell? ⟨G, k', none⟩ = some (.slice (some ⟨h, 0, none⟩) (L + 1) c) := by rw [← hv]; exact tab_get HTB.out hkR
          have HBY := Lib.hid hby
          clear hv hL hby
          go_wp2
          go_loop [28] (fun y => ∃ m', m' ≤ L ∧ y = .int .i64 m') (fun y => (L - (intOf y)).toNat)
          case atStart => exact ⟨0, Nat.zero_le _, rfl⟩
          case round =>
            obtain ⟨m', hm', rfl⟩ := hrel
            by_cases hml : m' < L
            · have hcell : wr.cell? ⟨h, m', none⟩ = some (.int .u8 (((k' : Int) + 1) % 256)) := done_cell HBY.out hml
              go_wp2
              go_round
              case rel => exact ⟨m' + 1, by omega, by go_num⟩
              case measure => simp [intOf]; omega
            · obtain rfl : m' = L := by omega
              go_wp2
              go_round
              case rel => exact ⟨k' + 1, by omega, by go_num⟩
              case measure => simp [intOf]; omega
        · obtain rfl : k' = k := by omega
          have kx := conv_opt (bytes_prefix HEX.out) c2
          have kp := conv_opt HEP.out cap
          have kd := conv_opt (bytes_prefix HED.out) c4
          have kc := conv_opt HEC.out ccap
          rw [← HN.out] at kx kp
          rw [← HM.out] at kd kc
          have cx := bytes_last HEX.out
          have cd := bytes_last HED.out
          rw [← HN.out] at cx
          rw [← HM.out] at cd
          obtain ⟨s1, hs1⟩ : ∃ s1, s1 = str l := ⟨_, rfl⟩
          obtain ⟨s2, hs2⟩ : ∃ s2, s2 = str cs := ⟨_, rfl⟩
          rw [← hs1] at kx kp
          rw [← hs2] at kd kc
          have cx' : wr.cell? ⟨g2, n, none⟩ = some (.int .u8 201) := cx
          have cd' : wr.cell? ⟨g4, m, none⟩ = some (.int .u8 202) := cd
          clear hs1 hs2 cx cd
          go_wp2
          go_ret
          exact ⟨rfl, HBA.out⟩
end Go.Proofs.YtmojfhleelhghaaDoor

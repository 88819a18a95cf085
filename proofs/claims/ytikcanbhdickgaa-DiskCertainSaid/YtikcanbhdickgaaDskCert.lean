/- P6.5: with all certain a crash tells the same, whatever the choice; what was certain once and not written again stays: the walk. -/
import Derived.Test.YtikcanbhdickgaaDskKeeps
namespace Go.Proofs.Ytikcanbhdickgaa
open Go.ChangeShapes Go.WideShapes Go.ChangeAt Go.RowKit

theorem bytes_block {w : World} {a : Option Addr} {l : List Nat} (h : BytesAt w a l) (h0 : l ≠ []) (ad : Addr) (e : a = some ad) : ad.block < w.heap.size := by
  subst e
  obtain ⟨b, o, e, hcl⟩ := h.2.2 0 (List.length_pos_iff.2 h0)
  cases e
  exact World.block_lt_of_cell? w _ hcl
theorem i64_and3 (n : Int) : bits .and .i64 n 3 = (((n % 4).toNat : Nat) : Int) := by
  have h3 : (BitVec.ofInt 64 3).toNat = 2 ^ 2 - 1 := by decide
  have key : (BitVec.ofInt 64 n &&& BitVec.ofInt 64 3).toNat = (n % ((2 ^ 64 : Nat) : Int)).toNat % 2 ^ 2 := by
    rw [BitVec.toNat_and, BitVec.toNat_ofInt, h3, Nat.and_two_pow_sub_one_eq_mod]
  show IntKind.i64.wrap ((BitVec.ofInt 64 n &&& BitVec.ofInt 64 3).toNat : Nat) = _
  rw [key, IntWalk.i64_in _ (by omega)]
  omega
theorem i64_and7 (n : Int) : bits .and .i64 n 7 = (((n % 8).toNat : Nat) : Int) := by
  have h3 : (BitVec.ofInt 64 7).toNat = 2 ^ 3 - 1 := by decide
  have key : (BitVec.ofInt 64 n &&& BitVec.ofInt 64 7).toNat = (n % ((2 ^ 64 : Nat) : Int)).toNat % 2 ^ 3 := by
    rw [BitVec.toNat_and, BitVec.toNat_ofInt, h3, Nat.and_two_pow_sub_one_eq_mod]
  show IntKind.i64.wrap ((BitVec.ofInt 64 n &&& BitVec.ofInt 64 7).toNat : Nat) = _
  rw [key, IntWalk.i64_in _ (by omega)]
  omega
/-- Writes since are of pages 4 to 7 alone; the log begins with what is certain. -/
def Cert (S : Dsk) (P : List (List Nat)) (lg : List Nat) : Prop := S.pages = P ∧ (∀ y ∈ S.wait, 4 ≤ y.1) ∧ (∀ y, S.torn = some y → 4 ≤ y.1) ∧ S.kept = lg.length ∧ S.log.take lg.length = lg ∧ lg.length ≤ S.log.length
theorem cert_write {S : Dsk} {P : List (List Nat)} {lg Y : List Nat} (h : Cert S P lg) (hP : P.length = 8) (hY : Y.length = 512) {i : Nat} (hi : i < 4) :
    Cert (doWrite S ((4 + i : Nat) : Int) Y).1 P lg ∧ (((doWrite S ((4 + i : Nat) : Int) Y).2 = 0) ∨ ((doWrite S ((4 + i : Nat) : Int) Y).2 = 9 ∧ (doWrite S ((4 + i : Nat) : Int) Y).1.dead = true)) ∧ (doWrite S ((4 + i : Nat) : Int) Y).1.ops ≤ S.ops + 1 := by
  obtain ⟨k1, k2, k3, k4, k5, k6⟩ := h
  unfold doWrite
  by_cases hd : S.dead = true
  · rw [if_pos hd]; exact ⟨⟨k1, k2, k3, k4, k5, k6⟩, .inr ⟨rfl, hd⟩, Nat.le_succ _⟩
  · rw [if_neg hd, if_neg (by rw [k1, hP, hY]; omega), Int.toNat_natCast]
    by_cases hf : S.fuse = some 0
    · rw [if_pos hf]; exact ⟨⟨k1, k2, (fun y hy => by cases hy; show 4 ≤ 4 + i; omega), k4, k5, k6⟩, .inr ⟨rfl, rfl⟩, Nat.le_succ _⟩
    · rw [if_neg hf]
      refine ⟨⟨k1, fun y hy => ?_, k3, k4, k5, k6⟩, .inl rfl, Nat.le_refl _⟩
      rcases List.mem_append.1 hy with h1 | h1
      · exact k2 y h1
      · rw [List.mem_singleton] at h1; subst h1; show 4 ≤ 4 + i; omega
theorem cert_append {S : Dsk} {P : List (List Nat)} {lg : List Nat} (h : Cert S P lg) (l : List Nat) :
    Cert (doAppend S l).1 P lg ∧ ((doAppend S l).2 = 9 ∨ (S.dead = false ∧ ((doAppend S l).2 = 0 ∨ (doAppend S l).2 = 7))) ∧ (doAppend S l).1.ops ≤ S.ops + 1 := by
  obtain ⟨k1, k2, k3, k4, k5, k6⟩ := h
  unfold doAppend
  by_cases hd : S.dead = true
  · rw [if_pos hd]; exact ⟨⟨k1, k2, k3, k4, k5, k6⟩, .inl rfl, Nat.le_succ _⟩
  · have hd' : S.dead = false := by simpa using hd
    rw [if_neg hd]
    by_cases hr : S.room < S.log.length + l.length
    · rw [if_pos hr]; exact ⟨⟨k1, k2, k3, k4, k5, k6⟩, .inr ⟨hd', .inr rfl⟩, Nat.le_succ _⟩
    · rw [if_neg hr]
      by_cases hf : S.fuse = some 0
      · rw [if_pos hf]; exact ⟨⟨k1, k2, k3, k4, k5, k6⟩, .inl rfl, Nat.le_succ _⟩
      · rw [if_neg hf]
        exact ⟨⟨k1, k2, k3, k4, by show (S.log ++ l).take lg.length = lg; rw [List.take_append_of_le_length k6]; exact k5, by show lg.length ≤ (S.log ++ l).length; rw [List.length_append]; omega⟩, .inr ⟨hd', .inl rfl⟩, Nat.le_refl _⟩
theorem keptN_low {zs : List Nat} {wait : List (Nat × List Nat)} {ps : List (List Nat)} (hw : ∀ y ∈ wait, 4 ≤ y.1) {i : Nat} (hi : i < 4) : ∀ k, (keptN zs wait ps k).getD i [] = ps.getD i []
  | 0 => rfl
  | k + 1 => by
    have ih := keptN_low (zs := zs) (ps := ps) hw hi k
    rw [keptN]
    split
    · rename_i y hy
      split
      · have := hw y (List.mem_of_getElem? hy)
        rw [List.getD_eq_getElem?_getD, List.getElem?_set, if_neg (by omega), ← List.getD_eq_getElem?_getD]
        exact ih
      · exact ih
    · exact ih
theorem cert_left {S : Dsk} {P : List (List Nat)} {lg : List Nat} (h : Cert S P lg) (zs : List Nat) : (leftOf zs S).pages.length = P.length ∧ (∀ i, i < 4 → pageNow (leftOf zs S) i = P.getD i []) ∧ (leftOf zs S).kept = (leftOf zs S).log.length ∧ (leftOf zs S).log.take lg.length = lg ∧ lg.length ≤ (leftOf zs S).log.length ∧
    pageNow (leftOf zs (leftOf zs S)) 5 = pageNow (leftOf zs S) 5 ∧ (leftOf zs (leftOf zs S)).pages.length = P.length ∧ (leftOf zs (leftOf zs S)).log = (leftOf zs S).log := by
  obtain ⟨k1, k2, k3, k4, k5, k6⟩ := h
  have hl : (leftOf zs S).pages.length = P.length := by
    show (tornPages zs S _).length = _
    unfold tornPages
    split
    · rw [keptN_length, k1]
    · rw [List.length_set, keptN_length, k1]
  have hg : logLeft zs S = lg ++ (late S).take (lateK zs S) := by rw [logLeft, k4, k5]
  have ha : (leftOf zs (leftOf zs S)).log = (leftOf zs S).log := by
    show logLeft zs (leftOf zs S) = _
    have h1 : late (leftOf zs S) = [] := by
      show (logLeft zs S).drop (logLeft zs S).length ++ [] = []
      rw [List.drop_length, List.append_nil]
    rw [logLeft, h1, List.take_nil, List.append_nil]
    show (logLeft zs S).take (logLeft zs S).length = logLeft zs S
    rw [List.take_length]
  refine ⟨hl, fun i hi => ?_, rfl, ?_, ?_, rfl, hl, ha⟩
  · show (tornPages zs S _).getD i [] = _
    unfold tornPages
    split
    · rw [keptN_low k2 hi, k1]
    · rename_i y hy
      have := k3 y hy
      rw [List.getD_eq_getElem?_getD, List.getElem?_set, if_neg (by omega), ← List.getD_eq_getElem?_getD, keptN_low k2 hi, k1]
  · show (logLeft zs S).take lg.length = lg
    rw [hg, List.take_append_of_le_length (Nat.le_refl _), List.take_length]
  · show lg.length ≤ (logLeft zs S).length
    rw [hg, List.length_append]; omega
def certA1 (k : Nat) (X : List Nat) : Dsk := { fresh 8 4096 with wait := [(k, X)], ops := 1 }
def certA2 (k : Nat) (X lg : List Nat) : Dsk := { fresh 8 4096 with wait := [(k, X)], ops := 2, log := lg }
def certA3 (k : Nat) (X lg : List Nat) : Dsk := { fresh 8 4096 with pages := (List.range 8).map (pageNow (certA2 k X lg)), ops := 3, log := lg }
def certA4 (k : Nat) (X lg : List Nat) : Dsk := { fresh 8 4096 with pages := (List.range 8).map (pageNow (certA2 k X lg)), ops := 4, log := lg, kept := lg.length }
theorem certE1 {k : Nat} {X : List Nat} (hk : k < 4) (hX : X.length = 512) : doWrite (fresh 8 4096) (k : Int) X = (certA1 k X, 0) := by
  rw [doWrite_ok rfl (by simp [fresh]; omega) hX (by simp [fresh])]; rfl
theorem certE2 {k : Nat} {X lg : List Nat} (h : lg.length ≤ 4096) : doAppend (certA1 k X) lg = (certA2 k X lg, 0) := by
  rw [doAppend_ok rfl (by simp [certA1, fresh]; omega) (by simp [certA1, fresh])]; rfl
theorem certE3 {k : Nat} {X lg : List Nat} : doSync (certA2 k X lg) = (certA3 k X lg, 0) := by
  rw [doSync_ok rfl (by simp [certA2, fresh])]; rfl
theorem certE4 {k : Nat} {X lg : List Nat} : doForce (certA3 k X lg) = (certA4 k X lg, 0) := by
  rw [doForce_ok rfl (by simp [certA3, fresh])]; rfl
theorem certE7 {lg : List Nat} (h : 4096 < lg.length) : (doAppend (fresh 8 4096) lg).2 = 7 := by
  unfold doAppend
  rw [if_neg (by simp [fresh]), if_pos (by simp [fresh]; exact h)]
theorem cert_start {k : Nat} {X lg : List Nat} (hk : k < 4) (q : Int) : ∃ P, P.length = 8 ∧ P.getD k [] = X ∧ Cert (doFuse (certA4 k X lg) q) P lg := by
  refine ⟨(List.range 8).map (pageNow (certA2 k X lg)), by simp, ?_, rfl, (fun y hy => by cases hy), (fun y hy => by cases hy), rfl, List.take_length, Nat.le_refl _⟩
  rw [List.getD_eq_getElem?_getD, List.getElem?_map, List.getElem?_range (by omega)]
  simp [pageNow, certA2]
theorem certO (k : Nat) (X lg : List Nat) : (fresh 8 4096).ops < 4398046511104 ∧ (certA1 k X).ops < 4398046511104 ∧ (certA2 k X lg).ops < 4398046511104 ∧ (certA3 k X lg).ops < 4398046511104 ∧ ∀ q, (doFuse (certA4 k X lg) q).ops ≤ 4 := by
  refine ⟨?_, ?_, ?_, ?_, fun q => Nat.le_refl _⟩
  · show 0 < 4398046511104; decide
  · show 1 < 4398046511104; decide
  · show 2 < 4398046511104; decide
  · show 3 < 4398046511104; decide
attribute [local irreducible] padz fresh certA1 certA2 certA3 certA4
set_option maxHeartbeats 4000000 in
set_option maxRecDepth 100000 in
theorem certain_walk {a1 a2 a3 a4 : Option Addr} {k1 k2 k3 k4 : Nat} {l1 l2 l3 l4 : List Nat} {w : World} (n fz : Int) (hp1 : In w a1 k1 l1) (hp2 : In w a2 k2 l2) (hp3 : In w a3 k3 l3) (hp4 : In w a4 k4 l4) :
    Calls Try.prog 5 #[.int .i64 n, .slice a1 l1.length k1, .slice a2 l2.length k2, .slice a3 l3.length k3, .slice a4 l4.length k4, .int .i64 fz] w fun e w' => e = .returned (.bool true) ∧ Below w.heap.size w w' := by
  have HP1 := Lib.hid hp1; have HP2 := Lib.hid hp2; have HP3 := Lib.hid hp3; have HP4 := Lib.hid hp4
  have hn1 := hp1.2.2; have hn2 := hp2.2.2; have hn3 := hp3.2.2; have hn4 := hp4.2.2
  obtain ⟨m1, hm1⟩ : ∃ m, m = l1.length := ⟨_, rfl⟩
  obtain ⟨m2, hm2⟩ : ∃ m, m = l2.length := ⟨_, rfl⟩
  obtain ⟨m3, hm3⟩ : ∃ m, m = l3.length := ⟨_, rfl⟩
  obtain ⟨m4, hm4⟩ : ∃ m, m = l4.length := ⟨_, rfl⟩
  rw [← hm1] at hn1 ⊢
  rw [← hm2] at hn2 ⊢
  rw [← hm3] at hn3 ⊢
  rw [← hm4] at hn4 ⊢
  have HM1 := Lib.hid hm1; have HM2 := Lib.hid hm2; have HM3 := Lib.hid hm3; have HM4 := Lib.hid hm4
  have HMX : Hid (∀ k, k ≤ 140737488355328 → k ≤ maxLen) := Lib.hid (fun k h => by unfold maxLen; omega)
  obtain ⟨r1, hr1⟩ : ∃ r, r = m1 + 512 := ⟨_, rfl⟩
  obtain ⟨r2, hr2⟩ : ∃ r, r = m2 + 512 := ⟨_, rfl⟩
  have HR1 : Hid (m1 + 512 = r1) := Lib.hid hr1.symm
  have HR2 : Hid (m2 + 512 = r2) := Lib.hid hr2.symm
  have hr47 : r1 ≤ 140737488355328 ∧ r2 ≤ 140737488355328 := by omega
  clear hp1 hp2 hp3 hp4 hm1 hm2 hm3 hm4 hr1 hr2
  obtain ⟨hr471, hr472⟩ := hr47
  obtain ⟨i0, R0⟩ := rowU8
  have HR := Lib.hid R0
  clear R0
  have hand := i64_and3 n
  have hk4 : (n % 4).toNat < 4 := by omega
  generalize (n % 4).toNat = k at hand hk4
  have hand7 := i64_and7 fz
  have hq8 : (fz % 8).toNat < 8 := by omega
  generalize (fz % 8).toNat = q at hand7 hq8
  have HNEW : Hid (∀ V, Below w.heap.size w V → Calls Try.prog 11 #[.int .i64 8, .int .i64 4096] V fun e w' => ∃ g, e = .returned (.tuple #[.pointer (some ⟨g, 0, none⟩), .int .i64 0]) ∧ Live w w' (fresh 8 4096) g Nil) := Lib.hid (fun V hV => (new_does 8 4096 (by decide) (by decide) (by decide) V).mono (fun e w' hs => by
    obtain ⟨g, he, hl, _⟩ := live_new (A := Nil) hs (fun k hk => hk.elim) hV (fun _ => by unfold fresh; rfl) (fun k hk => hk.elim)
    exact ⟨g, he, hl⟩))
  go_enter Try.func5, Try.ntmps5
  go_upto_region 7 with (first
    | (at_builtin; refine wpList_zeros HR.out Try.underlying3 rfl (.tmp 48) (.const (.int .i64 512)) rfl rfl rfl HS5.out HR2.out (by decide) (by omega) ?_; intro a6 c6 b6 w6 h1 h2 h3; have HN6 := Lib.hid (own_slc HN5.out.1 HN5.out.2 h2 h3); obtain ⟨by', oy, rfl, rfl, hrun6, hx6, hc6, hcm6⟩ := padz_slc h1 (by rw [← HM2.out]; exact HR2.out); have HY6 := Lib.hid hx6; clear h1 h2 h3 hx6)
    | (at_builtin; refine wpList_slc HR.out rfl (.tmp 46) (.tmp 47) 28 rfl rfl rfl (slc_fresh w4 5 1) (bytes_src Try.underlying28 (bytes_below (bytes_below (bytes_below HP2.out.1 HL2.out.below) HN4.out.1) (below_alloc w4 _)) HM2.out.symm) (Nat.zero_add m2) (HMX.out _ (by omega)) (by omega) ?_; intro a5 c5 b5 w5 h1 h2 h3; have HS5 := Lib.hid h1; have HN5 := Lib.hid (own_slc (below_alloc w4 _) (own_fresh w4) h2 h3); clear h1 h2 h3)
    | (at_builtin; refine wpList_zeros HR.out Try.underlying3 rfl (.tmp 43) (.const (.int .i64 512)) rfl rfl rfl HS3.out HR1.out (by decide) (by omega) ?_; intro a4' cx b4 w4 h1 h2 h3; have HN4 := Lib.hid (own_slc HN3.out.1 HN3.out.2 h2 h3); obtain ⟨bx, ox, rfl, rfl, hrun4, hx4, hc4, hcm4⟩ := padz_slc h1 (by rw [← HM1.out]; exact HR1.out); have HX4 := Lib.hid hx4; clear h1 h2 h3 hx4)
    | (at_builtin; refine wpList_slc HR.out rfl (.tmp 41) (.tmp 42) 28 rfl rfl rfl (slc_fresh w2 5 1) (bytes_src Try.underlying28 (bytes_below (bytes_below HP1.out.1 HL2.out.below) (below_alloc w2 _)) HM1.out.symm) (Nat.zero_add m1) (HMX.out _ (by omega)) (by omega) ?_; intro a3' c3 b3 w3 h1 h2 h3; have HS3 := Lib.hid h1; have HN3 := Lib.hid (own_slc (below_alloc w2 _) (own_fresh w2) h2 h3); clear h1 h2 h3)
    | (go_at_call 11; refine (HNEW.out _ HB1.out).mono ?_; rintro e w2 ⟨g, rfl, hl⟩; have HL2 := Lib.hid hl; clear hl)
    | (go_at_call 10; refine (awake_any w).mono ?_; rintro e w1 ⟨rfl, hb1⟩; have HB1 := Lib.hid hb1; clear hb1))
  have HXl : Hid ((padz l1).length = 512) := Lib.hid (padz_len l1)
  have HXB : Hid (∀ c ∈ padz l1, c < 256) := Lib.hid (padz_byte HP1.out.1.1)
  have HYl : Hid ((padz l2).length = 512) := Lib.hid (padz_len l2)
  have HYB : Hid (∀ c ∈ padz l2, c < 256) := Lib.hid (padz_byte HP2.out.1.1)
  obtain ⟨A, hA⟩ : ∃ A : Nat → Prop, A = fun j => j = bx ∨ j = by' := ⟨_, rfl⟩
  have HA : Hid (A bx ∧ A by') := Lib.hid (by rw [hA]; exact ⟨.inl rfl, .inr rfl⟩)
  have HL6 : Hid (Live w w6 (fresh 8 4096) g A) := Lib.hid (live_mono (live_below HL2.out (HN4.out.1.trans (HN6.out.1.mono HN4.out.1.size))) (fun j hj => by
    rw [hA] at hj
    refine .inr ?_
    rcases hj with rfl | rfl
    · exact ⟨HN4.out.2 _ rfl, Nat.lt_of_lt_of_le (slc_lt HX4.out _ rfl) HN6.out.1.size⟩
    · exact ⟨Nat.le_trans HN4.out.1.size (HN6.out.2 _ rfl), slc_lt HY6.out _ rfl⟩))
  have HX6 := Lib.hid (slc_bytes (slc_below HX4.out HN6.out.1) HXB.out)
  have HYY := Lib.hid (slc_bytes HY6.out HYB.out)
  generalize padz l1 = X at HX4 HXl HXB HX6
  generalize padz l2 = Y at HY6 HYl HYB HYY
  clear HN6 HN5 HS5 HN4 HN3 HS3 HNEW HB1 HL2 hrun4 hrun6 HX4 HY6 hA hc4 hcm4 hc6 hcm6 hand
  have HLG6 := Lib.hid (bytes_below HP3.out.1 HL6.out.below)
  have hm3x : m3 ≤ 9223372036854775807 := by omega
  have HMI3 : Hid (Mine w A a3 l3) := Lib.hid (fun h0 ad e => .inl (bytes_block HP3.out.1 h0 ad e))
  by_cases hbig : 4096 < m3
  · have HAP : Hid (Calls Try.prog 16 #[.pointer (some ⟨g, 0, none⟩), .slice a3 m3 k3] w6 fun e w' => e = .returned (.int .i64 7) ∧ Below w.heap.size w w') := Lib.hid (by
      have h := live_append (cap := k3) HL6.out HLG6.out HM3.out.symm HMI3.out hm3x (certO 0 [] []).1
      rw [certE7 (by rw [← HM3.out]; exact hbig)] at h
      exact h.mono (fun e w' hs => ⟨hs.1, hs.2.1.below⟩))
    go_wp2_with (go_at_call 16; refine HAP.out.mono ?_; rintro e w7 ⟨rfl, hb⟩; have HB7 := Lib.hid hb; clear hb)
    go_ret
    exact ⟨rfl, HB7.out⟩
  · have HBG : Hid (l3.length ≤ 4096) := Lib.hid (by rw [← HM3.out]; omega)
    have HO := Lib.hid (certO k X l3)
    have HWr : Hid (Calls Try.prog 12 #[.pointer (some ⟨g, 0, none⟩), .int .i64 (k : Int), .slice (some ⟨bx, ox, none⟩) 512 cx] w6 (Goes w w6 (certA1 k X) g A 0)) := Lib.hid (by
      have h := live_write (cap := cx) HL6.out (k : Int) HX6.out HXl.out HO.out.1
      rw [certE1 hk4 HXl.out] at h
      exact h)
    have HAP : Hid (∀ V, Live w V (certA1 k X) g A → Calls Try.prog 16 #[.pointer (some ⟨g, 0, none⟩), .slice a3 m3 k3] V (Goes w V (certA2 k X l3) g A 0)) := Lib.hid (fun V hV => by
      have h := live_append (cap := k3) hV (bytes_below HP3.out.1 hV.below) HM3.out.symm HMI3.out hm3x HO.out.2.1
      rw [certE2 HBG.out] at h
      exact h)
    have HSY : Hid (∀ V, Live w V (certA2 k X l3) g A → Calls Try.prog 29 #[.pointer (some ⟨g, 0, none⟩)] V (Goes w V (certA3 k X l3) g A 0)) := Lib.hid (fun V hV => by
      have h := live_sync hV HO.out.2.2.1
      rw [certE3] at h
      exact h)
    have HFO : Hid (∀ V, Live w V (certA3 k X l3) g A → Calls Try.prog 17 #[.pointer (some ⟨g, 0, none⟩)] V (Goes w V (certA4 k X l3) g A 0)) := Lib.hid (fun V hV => by
      have h := live_force hV HO.out.2.2.2.1
      rw [certE4] at h
      exact h)
    have HFU : Hid (∀ V, Live w V (certA4 k X l3) g A → Calls Try.prog 19 #[.pointer (some ⟨g, 0, none⟩), .int .i64 (q : Int)] V fun e w' => e = .returned (.tuple #[]) ∧ Live w w' (doFuse (certA4 k X l3) q) g A ∧ ∀ j, A j → w'.heap[j]? = V.heap[j]?) := Lib.hid (fun V hV => live_fuse hV (q : Int) (by omega))
    go_wp2_with (first
      | (go_at_call 12; refine HWr.out.mono ?_; rintro e w7 ⟨rfl, hl, hk'⟩; have HL7 := Lib.hid hl; have HK7 := Lib.hid hk'; clear hl hk')
      | (go_at_call 16; refine (HAP.out w7 HL7.out).mono ?_; rintro e w8 ⟨rfl, hl, hk'⟩; have HL8 := Lib.hid hl; have HK8 : Hid (∀ j, A j → w8.heap[j]? = w6.heap[j]?) := Lib.hid (fun j hj => (hk' j hj).trans (HK7.out j hj)); clear hl hk')
      | (go_at_call 29; refine (HSY.out w8 HL8.out).mono ?_; rintro e w9 ⟨rfl, hl, hk'⟩; have HL9 := Lib.hid hl; have HK9 : Hid (∀ j, A j → w9.heap[j]? = w6.heap[j]?) := Lib.hid (fun j hj => (hk' j hj).trans (HK8.out j hj)); clear hl hk')
      | (go_at_call 17; refine (HFO.out w9 HL9.out).mono ?_; rintro e w10 ⟨rfl, hl, hk'⟩; have HL10 := Lib.hid hl; have HK10 : Hid (∀ j, A j → w10.heap[j]? = w6.heap[j]?) := Lib.hid (fun j hj => (hk' j hj).trans (HK9.out j hj)); clear hl hk')
      | (go_at_call 19; refine (HFU.out w10 HL10.out).mono ?_; rintro e w11 ⟨rfl, hl, hk'⟩; have HL11 := Lib.hid hl; have HK11 : Hid (∀ j, A j → w11.heap[j]? = w6.heap[j]?) := Lib.hid (fun j hj => (hk' j hj).trans (HK10.out j hj)); clear hl hk'))
    obtain ⟨P, hP8, hPk, hCe⟩ := cert_start (X := X) (lg := l3) hk4 (q : Int)
    have HP8 := Lib.hid hP8; have HPK := Lib.hid hPk
    have HS11 : Hid (∃ S, Live w w11 S g A ∧ Cert S P l3 ∧ S.ops ≤ 4) := Lib.hid ⟨_, HL11.out, hCe, HO.out.2.2.2.2 q⟩
    clear hP8 hPk hCe HWr HAP HSY HFO HFU HL7 HL8 HL9 HL10 HK7 HK8 HK9 HK10 HL11 HO hbig hand7
    go_loopw [18] (fun i wr => ∃ (j : Nat), j ≤ 4 ∧ i = .int .i64 j ∧ Hid (∃ S, Live w wr S g A ∧ Cert S P l3 ∧ S.ops ≤ 4 + 2 * j) ∧ Hid (∀ j, A j → wr.heap[j]? = w6.heap[j]?)) (fun i _ => (4 - (intOf i)).toNat)
    case atStart => exact ⟨0, Nat.zero_le _, rfl, HS11, HK11⟩
    case round =>
      obtain ⟨j, hj, rfl, HSr, HKr⟩ := hrel
      clear HS11 HK11
      by_cases hlt : j < 4
      · have HWj : Hid (Calls Try.prog 12 #[.pointer (some ⟨g, 0, none⟩), .int .i64 ((4 + j : Nat) : Int), .slice (some ⟨by', oy, none⟩) 512 c6] wr fun e w' => ∃ r : Int, e = .returned (.int .i64 r) ∧ (∀ i, A i → w'.heap[i]? = w6.heap[i]?) ∧ ∃ S, Live w w' S g A ∧ Cert S P l3 ∧ S.ops ≤ 5 + 2 * j ∧ (r = 0 ∨ (r = 9 ∧ S.dead = true))) := Lib.hid (by
          obtain ⟨S, h1, h2, h3⟩ := HSr.out
          have h := live_write (cap := c6) h1 ((4 + j : Nat) : Int) (bytes_same' HYY.out (HKr.out by' HA.out.2)) HYl.out (by omega)
          have hc := cert_write h2 HP8.out HYl.out hlt
          exact h.mono (fun e w' hs => ⟨_, hs.1, fun i hi => (hs.2.2 i hi).trans (HKr.out i hi), _, hs.2.1, hc.1, by have := hc.2.2; omega, hc.2.1⟩))
        have HAj : Hid (∀ (V : World) (S : Dsk), Live w V S g A → Cert S P l3 → S.ops ≤ 5 + 2 * j → Calls Try.prog 16 #[.pointer (some ⟨g, 0, none⟩), .slice (some ⟨V.heap.size, 0, none⟩) 1 1] (V.alloc (.cells #[.int .u8 (j : Int)] 5)) fun e w' => ∃ r : Int, e = .returned (.int .i64 r) ∧ (∀ i, A i → w'.heap[i]? = V.heap[i]?) ∧ (∃ S', Live w w' S' g A ∧ Cert S' P l3 ∧ S'.ops ≤ 4 + 2 * (j + 1)) ∧ (r = 9 ∨ (S.dead = false ∧ (r = 0 ∨ r = 7)))) := Lib.hid (fun V S h1 h2 h3 => by
          have hb : BytesAt (V.alloc (.cells (u8c [j]) 5)) (some ⟨V.heap.size, 0, none⟩) [j] := const_bytes V [j] (fun c hc => by rw [List.mem_singleton] at hc; omega) (by show 1 ≤ maxLen; unfold maxLen; decide)
          have hl := live_below h1 (below_alloc V (.cells (u8c [j]) 5))
          have h := live_append (cap := 1) hl hb (rfl : [j].length = 1) (fun _ ad e => by cases e; exact .inr (.inr ⟨Nat.le_refl _, by simp⟩)) (by show 1 ≤ 9223372036854775807; decide) (by omega)
          have hc := cert_append h2 [j]
          exact h.mono (fun e w' hs => ⟨_, hs.1, fun i hi => (hs.2.2 i (.inl hi)).trans ((below_alloc V _).block i (h1.lt i hi)), ⟨_, live_mono hs.2.1 (fun i hi => .inl hi), hc.1, by have := hc.2.2; omega⟩, hc.2.1⟩))
        have hw4 : IntKind.i64.wrap (4 + (j : Int)) = ((4 + j : Nat) : Int) := by rw [IntWalk.i64_in _ (by omega)]; omega
        have hw8 : IntKind.u8.wrap (j : Int) = (j : Int) := by rw [IntKind.wrap_u8]; omega
        clear HSr
        go_wp2_with fail
        refine HWj.out.mono ?_
        rintro e w12 ⟨r, rfl, hk1, S, h1, h2, h3, h4⟩
        have HK12 := Lib.hid hk1
        have HAJ := Lib.hid (HAj.out w12 S h1 h2 h3)
        have HSD : Hid (r = 0 ∨ (r = 9 ∧ S.dead = true)) := Lib.hid h4
        clear hk1 h1 h2 h3 h4 HAj HWj
        go_wp2_with fail
        refine HAJ.out.mono ?_
        rintro e w13 ⟨r2, rfl, hk1, h1, h4⟩
        have HK13 : Hid (∀ i, A i → w13.heap[i]? = w6.heap[i]?) := Lib.hid (fun i hi => (hk1 i hi).trans (HK12.out i hi))
        have HS13 := Lib.hid h1
        have hboth : (r = 0 ∧ (r2 = 0 ∨ r2 = 7 ∨ r2 = 9)) ∨ (r = 9 ∧ r2 = 9) := by
          rcases HSD.out with rfl | ⟨rfl, hd⟩
          · refine .inl ⟨rfl, ?_⟩
            rcases h4 with rfl | ⟨_, rfl | rfl⟩ <;> simp
          · refine .inr ⟨rfl, ?_⟩
            rcases h4 with rfl | ⟨hd', _⟩
            · rfl
            · rw [hd] at hd'; cases hd'
        clear hk1 h1 h4 HSD HAJ hw4 hw8
        rcases hboth with ⟨rfl, rfl | rfl | rfl⟩ | ⟨rfl, rfl⟩ <;>
        (go_wp2
         go_roundw
         case rel => exact ⟨j + 1, by omega, by go_num, HS13, HK13⟩
         case measure => simp [intOf]; omega)
      · have d5 : decide ((j : Int) < 4) = false := decide_eq_false (by omega)
        obtain ⟨S, h1, h2, h3⟩ := HSr.out
        obtain ⟨p1, p2, p3, p4, p5, p6, p7, p8⟩ := cert_left h2 l4
        have HL13 := Lib.hid h1
        obtain ⟨B, hB⟩ : ∃ B, B = leftOf l4 S := ⟨_, rfl⟩
        obtain ⟨B2, hB2⟩ : ∃ B2, B2 = leftOf l4 B := ⟨_, rfl⟩
        rw [← hB] at p1 p2 p3 p4 p5 p6 p7 p8
        rw [← hB2] at p6 p7 p8
        have hBd : B.dead = false := by rw [hB]; rfl
        have hB2d : B2.dead = false := by rw [hB2]; rfl
        have HCR : Hid (Calls Try.prog 14 #[.pointer (some ⟨g, 0, none⟩), .slice a4 m4 k4] wr (fun e w' => ∃ g', e = .returned (.pointer (some ⟨g', 0, none⟩)) ∧ Live w w' B g' A ∧ Below wr.heap.size wr w')) := Lib.hid (by
          rw [hB]
          exact (live_crash (cap := k4) h1 (bytes_below HP4.out.1 h1.below) HM4.out.symm (by unfold maxLen; omega)).mono (fun e w' ⟨g', q1, q2, q3, _⟩ => ⟨g', q1, q2, q3⟩))
        have HCB : Hid (∀ V g', Live w V B g' A → Calls Try.prog 14 #[.pointer (some ⟨g', 0, none⟩), .slice a4 m4 k4] V (fun e w' => ∃ g2, e = .returned (.pointer (some ⟨g2, 0, none⟩)) ∧ Live w w' B2 g2 A ∧ Below V.heap.size V w')) := Lib.hid (fun V g' hV => by
          rw [hB2]
          exact (live_crash (cap := k4) hV (bytes_below HP4.out.1 hV.below) HM4.out.symm (by unfold maxLen; omega)).mono (fun e w' ⟨g', q1, q2, q3, _⟩ => ⟨g', q1, q2, q3⟩))
        have HRB : Hid (∀ V g', Live w V B g' A → Calls Try.prog 15 #[.pointer (some ⟨g', 0, none⟩), .int .i64 (k : Int)] V (TellsB V 512 X)) := Lib.hid (fun V g' hV => by
          have h := live_read hV k hBd (by rw [p1, HP8.out]; omega)
          rw [p2 k hk4, HPK.out] at h
          exact h)
        obtain ⟨Z, hZ⟩ : ∃ Z, Z = pageNow B 5 := ⟨_, rfl⟩
        have HRB5 : Hid (∀ V g', Live w V B g' A → Calls Try.prog 15 #[.pointer (some ⟨g', 0, none⟩), .int .i64 5] V (TellsB V 512 Z)) := Lib.hid (fun V g' hV => by rw [hZ]; exact live_read hV 5 hBd (by rw [p1, HP8.out]; decide))
        have HR5 : Hid (∀ V g', Live w V B2 g' A → Calls Try.prog 15 #[.pointer (some ⟨g', 0, none⟩), .int .i64 5] V (TellsB V 512 Z)) := Lib.hid (fun V g' hV => by
          have h := live_read hV 5 hB2d (by rw [p7, HP8.out]; decide)
          rw [p6, ← hZ] at h
          exact h)
        have HZB : Hid (∀ V g', Live w V B g' A → (∀ c ∈ Z, c < 256) ∧ Z.length = 512) := Lib.hid (fun V g' hV => by rw [hZ]; exact live_page hV 5 (by rw [p1, HP8.out]; decide))
        obtain ⟨L, hL⟩ : ∃ L, L = B.log.length := ⟨_, rfl⟩
        have HLB : Hid (∀ V g', Live w V B g' A → Calls Try.prog 18 #[.pointer (some ⟨g', 0, none⟩)] V (TellsB V L B.log)) := Lib.hid (fun V g' hV => by rw [hL]; exact live_log hV hBd)
        have HLB2 : Hid (∀ V g', Live w V B2 g' A → Calls Try.prog 18 #[.pointer (some ⟨g', 0, none⟩)] V (TellsB V L B.log)) := Lib.hid (fun V g' hV => by rw [hL, ← p8]; exact live_log hV hB2d)
        have HCE : Hid (∀ V g', Live w V B g' A → Calls Try.prog 30 #[.pointer (some ⟨g', 0, none⟩)] V fun e w' => e = .returned (.int .i64 (L : Int)) ∧ V = w') := Lib.hid (fun V g' hV => by rw [hL, ← p3]; exact live_certain hV)
        have HLL : Hid (B.log.length = L) := Lib.hid hL.symm
        have HTK : Hid (B.log.take m3 = l3) := Lib.hid (by rw [HM3.out]; exact p4)
        have hmL : m3 ≤ L := by rw [HM3.out, hL]; exact p5
        have HML := Lib.hid hmL
        have HKB : Hid (∀ V g', Live w V B g' A → ∀ c ∈ B.log, c < 256) := Lib.hid (fun V g' hV => (live_known hV).1)
        clear h1 h2 h3 p1 p2 p3 p4 p5 p6 p7 p8 hB hB2 hBd hB2d hZ hL HSr
        go_upto_region 26 with (first
          | (go_at_call 14; (with_reducible refine (HCB.out w14 g14 HC14.out).mono ?_); rintro e w15 ⟨g15, rfl, hl, hb⟩; have HA15 := Lib.hid hl; have HC15 := Lib.hid (live_on HC14.out hb); have HX15 : Hid (w15.heap[bx]? = w6.heap[bx]?) := Lib.hid ((hb.block bx (HC14.out.lt bx HA.out.1)).trans HX14.out); clear hl hb)
          | (go_at_call 14; (with_reducible refine HCR.out.mono ?_); rintro e w14 ⟨g14, rfl, hl, hb⟩; have HC14 := Lib.hid hl; have HKB' := Lib.hid (HKB.out _ _ hl); have HZB' := Lib.hid (HZB.out _ _ hl); have HX14 : Hid (w14.heap[bx]? = w6.heap[bx]?) := Lib.hid ((hb.block bx (HL13.out.lt bx HA.out.1)).trans (HKr.out bx HA.out.1)); clear hl hb)
          | (go_at_call 15; (with_reducible refine (HRB5.out v27 g14 HC27.out).mono ?_); rintro e v29 ht; obtain ⟨b29, o29, c29, rfl, -, hy, -, hb, -, -⟩ := tells_bytes ht HZB'.out.1; have HY29 := Lib.hid hy; have HG29 : Hid (Below v27.heap.size v27 v29) := Lib.hid hb; have HC29 := Lib.hid (live_on HC27.out hb); have HA29 := Lib.hid (live_on HA27.out hb); clear ht hy hb)
          | (go_at_call 15; (with_reducible refine (HR5.out v25 g15 HA25.out).mono ?_); rintro e v27 ht; obtain ⟨b27, o27, c27, rfl, -, hy, -, hb, -, -⟩ := tells_bytes ht HZB'.out.1; have HY27 := Lib.hid hy; have HG27 : Hid (Below v25.heap.size v25 v27) := Lib.hid hb; have HC27 := Lib.hid (live_on HC25.out hb); have HA27 := Lib.hid (live_on HA25.out hb); clear ht hy hb)
          | (go_at_call 18; (with_reducible refine (HLB2.out v29 g15 HA29.out).mono ?_); rintro e v31 ht; obtain ⟨b31, o31, c31, rfl, -, hy, -, hb, -, -⟩ := tells_bytes ht HKB'.out; have HY31 := Lib.hid hy; have HG31 : Hid (Below v29.heap.size v29 v31) := Lib.hid hb; have HC31 := Lib.hid (live_on HC29.out hb); clear ht hy hb)
          | (go_at_call 18; (with_reducible refine (HLB.out v23 g14 HC23.out).mono ?_); rintro e v25 ht; obtain ⟨b25, o25, c25, rfl, hs, hy, -, hb, -, -⟩ := tells_bytes ht HKB'.out; have HS25 := Lib.hid hs; have HY25 := Lib.hid hy; have HG25 : Hid (Below v23.heap.size v23 v25) := Lib.hid hb; have HC25 := Lib.hid (live_on HC23.out hb); have HA25 := Lib.hid (live_on HA23.out hb); clear ht hs hy hb)
          | (go_at_call 15; (with_reducible refine (HRB.out w15 g14 HC15.out).mono ?_); rintro e v23 ht; obtain ⟨b23, o23, c23, rfl, -, hy, -, hb, -, -⟩ := tells_bytes ht HXB.out; have HY23 := Lib.hid hy; have HG23 : Hid (Below w15.heap.size w15 v23) := Lib.hid hb; have HC23 := Lib.hid (live_on HC15.out hb); have HA23 := Lib.hid (live_on HA15.out hb); clear ht hy hb))
        obtain ⟨hrun25, hu25⟩ := slc_upto (j := m3) HS25.out HML.out
        rw [show (u8s B.log).take m3 = u8s (B.log.take m3) by simp only [u8s, List.map_take], HTK.out] at hu25
        have HU25 := Lib.hid (slc_bytes hu25 HP3.out.1.1)
        have HG : Hid (Below v23.heap.size v23 v31 ∧ Below v25.heap.size v25 v31 ∧ Below v27.heap.size v27 v31 ∧ Below v29.heap.size v29 v31) := Lib.hid (by
          have h1 := HG25.out; have h2 := HG27.out; have h3 := HG29.out; have h4 := HG31.out
          have q3 := h3.trans (h4.mono h3.size)
          have q2 := h2.trans (q3.mono h2.size)
          exact ⟨h1.trans (q2.mono h1.size), q2, q3, h4⟩)
        have HX31 : Hid (∀ V, Below v31.heap.size v31 V → V.heap[bx]? = w6.heap[bx]?) := Lib.hid (fun V hV => by
          have l15 := HC15.out.lt bx HA.out.1
          have l23 := Nat.lt_of_lt_of_le l15 HG23.out.size
          have l31 := Nat.lt_of_lt_of_le l23 HG.out.1.size
          exact (((hV.block bx l31).trans (HG.out.1.block bx l23)).trans (HG23.out.block bx l15)).trans HX15.out)
        obtain ⟨so, hso⟩ : ∃ so, so = str X := ⟨_, rfl⟩
        obtain ⟨sg, hsg⟩ : ∃ sg, sg = str l3 := ⟨_, rfl⟩
        obtain ⟨s5, hs5⟩ : ∃ s5, s5 = str Z := ⟨_, rfl⟩
        obtain ⟨sl, hsl⟩ : ∃ sl, sl = str B.log := ⟨_, rfl⟩
        have HSO := Lib.hid hso; have HSG := Lib.hid hsg; have HS5 := Lib.hid hs5; have HSL := Lib.hid hsl
        have HKF : Hid (∀ V, Below v31.heap.size v31 V → (convert 28 9 (.slice (some ⟨b23, o23, none⟩) 512 c23)).run Try.prog V = .ok (.string so) V ∧ (convert 28 9 (.slice (some ⟨bx, ox, none⟩) 512 cx)).run Try.prog V = .ok (.string so) V ∧ (convert 28 9 (.slice (some ⟨b25, o25, none⟩) m3 c25)).run Try.prog V = .ok (.string sg) V ∧ (convert 28 9 (.slice a3 m3 k3)).run Try.prog V = .ok (.string sg) V ∧ (convert 28 9 (.slice (some ⟨b27, o27, none⟩) 512 c27)).run Try.prog V = .ok (.string s5) V ∧ (convert 28 9 (.slice (some ⟨b29, o29, none⟩) 512 c29)).run Try.prog V = .ok (.string s5) V ∧ (convert 28 9 (.slice (some ⟨b31, o31, none⟩) L c31)).run Try.prog V = .ok (.string sl) V ∧ (convert 28 9 (.slice (some ⟨b25, o25, none⟩) L c25)).run Try.prog V = .ok (.string sl) V) := Lib.hid (fun V hV => by
          have h := HG.out
          have q1 := conv_any (bytes_below (bytes_below HY23.out h.1) hV) HXl.out c23
          have q2 := conv_any (bytes_same' HX6.out (HX31.out V hV)) HXl.out cx
          have q3 := conv_any (bytes_below (bytes_below HU25.out h.2.1) hV) HM3.out.symm c25
          have q4 := conv_any (bytes_below (bytes_below HP3.out.1 HC31.out.below) hV) HM3.out.symm k3
          have q5 := conv_any (bytes_below (bytes_below HY27.out h.2.2.1) hV) HZB'.out.2 c27
          have q6 := conv_any (bytes_below (bytes_below HY29.out h.2.2.2) hV) HZB'.out.2 c29
          have q7 := conv_any (bytes_below HY31.out hV) HLL.out c31
          have q8 := conv_any (bytes_below (bytes_below HY25.out h.2.1) hV) HLL.out c25
          rw [← HSO.out] at q1 q2
          rw [← HSG.out] at q3 q4
          rw [← HS5.out] at q5 q6
          rw [← HSL.out] at q7 q8
          exact ⟨q1, q2, q3, q4, q5, q6, q7, q8⟩)
        have HBZ : Hid (Below v31.heap.size v31 v31) := Lib.hid (Below.refl _ _)
        obtain ⟨q1, q2, q3, q4, q5, q6, q7, q8⟩ := HKF.out v31 HBZ.out
        have HCF : Hid (∀ V, Below v31.heap.size v31 V → Calls Try.prog 30 #[.pointer (some ⟨g14, 0, none⟩)] V fun e w' => e = .returned (.int .i64 (L : Int)) ∧ V = w') := Lib.hid (fun V hV => HCE.out V g14 (live_on HC31.out hV))
        have HEND := Lib.hid HC31.out.below
        have d7 : decide ((m3 : Int) ≤ (L : Int)) = true := decide_eq_true (by omega)
        clear hso hsg hs5 hsl hu25
        go_region_held3 (fun V => (convert 28 9 (.slice (some ⟨b23, o23, none⟩) 512 c23)).run Try.prog V = .ok (.string so) V ∧ (convert 28 9 (.slice (some ⟨bx, ox, none⟩) 512 cx)).run Try.prog V = .ok (.string so) V ∧ (convert 28 9 (.slice (some ⟨b25, o25, none⟩) m3 c25)).run Try.prog V = .ok (.string sg) V ∧ (convert 28 9 (.slice a3 m3 k3)).run Try.prog V = .ok (.string sg) V ∧ (convert 28 9 (.slice (some ⟨b27, o27, none⟩) 512 c27)).run Try.prog V = .ok (.string s5) V ∧ (convert 28 9 (.slice (some ⟨b29, o29, none⟩) 512 c29)).run Try.prog V = .ok (.string s5) V ∧ (convert 28 9 (.slice (some ⟨b31, o31, none⟩) L c31)).run Try.prog V = .ok (.string sl) V ∧ (convert 28 9 (.slice (some ⟨b25, o25, none⟩) L c25)).run Try.prog V = .ok (.string sl) V) (exact HKF.out _ (by repeat (first | exact HBZ.out | refine Below.drew ?_)))
          (first | ((go_at_call 30; refine (HCF.out _ (by repeat (first | exact HBZ.out | refine Below.drew ?_))).mono ?_; rintro e w' ⟨rfl, rfl⟩)))
        all_goals
          go_wp2
          go_ret
          exact ⟨rfl, by repeat (first | exact HEND.out | refine Below.drew ?_)⟩
end Go.Proofs.Ytikcanbhdickgaa

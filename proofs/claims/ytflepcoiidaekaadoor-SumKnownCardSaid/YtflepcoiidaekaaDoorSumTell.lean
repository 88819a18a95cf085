/- SumTells: walks. -/
import Derived.Test.YtflepcoiidaekaaDoorSumPoly
import Derived.Test.YtflepcoiidaekaaDoorSumNumC
import Derived.Deep.QuietTactic
import Derived.BigQuiet
namespace Go.Proofs.YtflepcoiidaekaaDoor
open Go.ChangeShapes Go.WideShapes Go.ChangeAt Go.RowKit

set_option maxHeartbeats 400000 in
theorem tell_none (a : Option Addr) (len cap : Nat) (bit row : Int) (w : World) (hT : TabAt w) (h : len = 0 ∨ row = 0) :
    Calls Tryd.prog 5 #[.slice a len cap, .int .i64 bit, .int .u32 row] w (True' w) := by
  have HA := Lib.hid (awake_any w hT)
  clear hT
  by_cases h0 : len = 0
  · subst h0
    clear h
    go_enter Tryd.func5, Tryd.ntmps5
    go_wp2_with (go_at_call 10; refine HA.out.mono ?_; rintro e w1 ⟨rfl, hb⟩; have HB := Lib.hid hb; clear hb)
    go_ret
    exact ⟨rfl, HB.out⟩
  · have hr : row = 0 := by omega
    subst hr
    have hl : ((len : Int) == 0) = false := by simp; omega
    clear h h0
    go_enter Tryd.func5, Tryd.ntmps5
    go_wp2_with (go_at_call 10; refine HA.out.mono ?_; rintro e w1 ⟨rfl, hb⟩; have HB := Lib.hid hb; clear hb)
    go_ret
    exact ⟨rfl, HB.out⟩

theorem mod_form {bit : Int} {len : Nat} (hl : 0 < len) : (∃ K : Nat, K < 8 * len ∧ bit.tmod (8 * (len : Int)) = (K : Int)) ∨ (∃ K : Nat, 0 < K ∧ K < 8 * len ∧ bit.tmod (8 * (len : Int)) = -(K : Int)) := by
  have h1 := Int.natAbs_tmod bit (8 * (len : Int))
  have h2 : (8 * (len : Int)).natAbs = 8 * len := by omega
  rw [h2] at h1
  have h3 : bit.natAbs % (8 * len) < 8 * len := Nat.mod_lt _ (by omega)
  rcases Int.natAbs_eq (bit.tmod (8 * (len : Int))) with h | h
  · exact .inl ⟨bit.natAbs % (8 * len), h3, by rw [h, h1]⟩
  · by_cases hz : bit.natAbs % (8 * len) = 0
    · exact .inl ⟨0, by omega, by rw [h, h1, hz]; rfl⟩
    · exact .inr ⟨bit.natAbs % (8 * len), by omega, h3, by rw [h, h1]⟩

theorem ba_inj {s t : ByteArray} (h : s.toList = t.toList) : s = t := by
  rw [ByteArray.toList_eq, ByteArray.toList_eq] at h
  cases s
  cases t
  simp only at h
  rw [Array.toList_inj.1 h]
/-- What the loop keeps: the bytes m are l with the row's first i bits turned from bit K on. -/
def Turned (l : List Nat) (K row i : Nat) (m : List Nat) : Prop := m.length = l.length ∧ (∀ c ∈ m, c < 256) ∧ num m = num l ^^^ 2 ^ K * (row % 2 ^ i)

theorem turn_val {d t : Nat} (hd : d < 256) (ht : t < 8) : bits .xor .u8 (d : Int) ((2 : Int) ^ t % 256) = ((d ^^^ 2 ^ t : Nat) : Int) := by
  have h2 : 2 ^ t < 256 := by
    have : 2 ^ t ≤ 2 ^ 7 := Nat.pow_le_pow_right (by omega) (by omega)
    omega
  have e : (2 : Int) ^ t % 256 = ((2 ^ t : Nat) : Int) := by
    rw [show (2 : Int) ^ t = ((2 ^ t : Nat) : Int) from (Int.natCast_pow 2 t).symm]
    obtain ⟨z, hz⟩ : ∃ z, z = 2 ^ t := ⟨_, rfl⟩
    rw [← hz] at h2 ⊢
    omega
  rw [e]
  exact u8_xor_nat d (2 ^ t) hd h2
theorem turned_step {l m : List Nat} {K row k d : Nat} (h : Turned l K row k m) (hb : row.testBit k = true) (hd : m[(K + k) / 8]? = some d) : Turned l K row (k + 1) (m.set ((K + k) / 8) (d ^^^ 2 ^ ((K + k) % 8))) := by
  obtain ⟨h1, h2, h3⟩ := h
  obtain ⟨hj, hdm⟩ := List.getElem?_eq_some_iff.1 hd
  have ht : (K + k) % 8 < 8 := Nat.mod_lt _ (by omega)
  have hd2 : d < 256 := by rw [← hdm]; exact h2 _ (List.getElem_mem _)
  have hp : 2 ^ ((K + k) % 8) < 2 ^ 8 := Nat.pow_lt_pow_right (by omega) ht
  refine ⟨by rw [List.length_set]; exact h1, fun c hc => ?_, ?_⟩
  · rcases List.mem_or_eq_of_mem_set hc with h | h
    · exact h2 c h
    · rw [h]; exact Nat.xor_lt_two_pow (n := 8) hd2 hp
  · have := num_set m ((K + k) / 8) ((K + k) % 8) hj h2 ht
    rw [hdm] at this
    rw [this, h3, row_step, hb, if_pos rfl, mul_xor, ← Nat.pow_add, Nat.xor_assoc]
    congr 3
    omega
theorem turned_skip {l m : List Nat} {K row k : Nat} (h : Turned l K row k m) (hb : ¬ row.testBit k = true) : Turned l K row (k + 1) m := by
  obtain ⟨h1, h2, h3⟩ := h
  refine ⟨h1, h2, ?_⟩
  rw [h3, row_step, if_neg hb, Nat.xor_zero]
theorem bit_val {row : Nat} (h : row < 4294967296) (k : Nat) : bits .and .u32 ((row : Int) / 2 ^ k) 1 = ((row / 2 ^ k % 2 : Nat) : Int) := by
  have e : ((row : Int) / 2 ^ k) = ((row / 2 ^ k : Nat) : Int) := by
    rw [Int.natCast_ediv, Int.natCast_pow]; rfl
  have hlt : row / 2 ^ k < 4294967296 := Nat.lt_of_le_of_lt (Nat.div_le_self _ _) h
  rw [e, show (1 : Int) = ((1 : Nat) : Int) from rfl, u32_and_nat _ 1 hlt (by omega), Nat.and_one_is_mod]
theorem bit_yes {row k : Nat} (h : row < 4294967296) (hb : row.testBit k = true) : (bits .and .u32 ((row : Int) / 2 ^ k) 1 == 1) = true := by
  rw [bit_val h]
  rw [Nat.testBit_eq_decide_div_mod_eq] at hb
  have := of_decide_eq_true hb
  rw [this]; rfl
theorem bit_no {row k : Nat} (h : row < 4294967296) (hb : ¬ row.testBit k = true) : (bits .and .u32 ((row : Int) / 2 ^ k) 1 == 1) = false := by
  rw [bit_val h]
  rw [Nat.testBit_eq_decide_div_mod_eq, decide_eq_true_eq] at hb
  have : row / 2 ^ k % 2 = 0 := by omega
  rw [this]; rfl
theorem row_turned {w : World} {B g n c : Nat} {m : List Nat} {j d t : Nat} (h : w.ownsRow B 5 1 (.slice (some ⟨g, 0, none⟩) n c) n (u8s m)) (hd : d < 256) (ht : t < 8) :
    (w.setCell ⟨g, j, none⟩ (.int .u8 (bits .xor .u8 (d : Int) ((2 : Int) ^ t % 256)))).ownsRow B 5 1 (.slice (some ⟨g, 0, none⟩) n c) n (u8s (m.set j (d ^^^ 2 ^ t))) := by
  rw [turn_val hd ht, u8s_set]
  exact (h.stored j _).1

set_option maxHeartbeats 1600000 in
theorem tell_pos (ad : Addr) (cap : Nat) (l : List Nat) (bit : Int) (row : Nat) (w : World) (hb : BytesAt w (some ad) l) (hreach : l.length ≤ 140737488351232) (hT : TabAt w) (hl : 0 < l.length) (hr : 0 < row) (hr2 : row < 4294967296) (K : Nat) (hK : K < 8 * l.length) (hmod : bit.tmod (8 * (l.length : Int)) = (K : Int)) :
    Calls Tryd.prog 5 #[.slice (some ad) l.length cap, .int .i64 bit, .int .u32 (row : Int)] w (True' w) := by
  obtain ⟨i0, hi, hz0, hz1, hz2⟩ := info_parts info5
  have hm : l.length ≤ maxLen := hb.2.1
  have HZ := Lib.hid hb.1
  have HA := Lib.hid (awake_any w hT)
  have HBY : Hid (∀ w', Below w.heap.size w w' → BytesAt w' (some ad) l) := Lib.hid (fun w' h => bytes_below hb h)
  have HTb := Lib.hid hT
  clear hT hb
  have HM := Lib.hid hm
  unfold maxLen at hm
  have HU1 := Lib.hid (u8s_one l)
  have HUL : Hid ((u8s l).length = l.length * 1) := Lib.hid (by simp [u8s])
  have HM1 : Hid (0 + l.length ≤ maxLen) := Lib.hid (by have := HM.out; omega)
  have HM2 : Hid ((0 + l.length) * 1 ≤ 140737488355328) := Lib.hid (by omega)
  have hl0 : ((l.length : Int) == 0) = false := by rw [beq_eq_false_iff_ne]; omega
  have hr0 : ((row : Int) == 0) = false := by simp; omega
  go_enter Tryd.func5, Tryd.ntmps5
  go_wp2_with (first | (go_at_call 10; refine HA.out.mono ?_; rintro e w0 ⟨rfl, hb0⟩; have HB0 := Lib.hid hb0; clear hb0) | (at_builtin; refine wpList_append_own _ rfl (.tmp 28) (.tmp 29) 27 rfl w0.heap.size 5 i0 (.int .u8 0) 1 1 Tryd.underlying27 hi hz0 hz1 hz2 rfl (by decide) _ _ _ rfl (World.ownsRow_made w0 #[] 0 (Nat.le_refl _) (Nat.zero_le _) rfl) ad l.length cap (u8s l) rfl HUL.out (fun j u h => cell_alloc (bytes_cells (HBY.out _ HB0.out) j u h) _) HU1.out HM1.out HM2.out (Nat.le_of_lt (by simp)) ?_; intro v1 w1 hown1 hgrow1 hnil1; obtain ⟨g1, c1, rfl, hg1⟩ := own_form hown1 (fun h => by have := (hnil1.1 h).1; cases this); simp only [Nat.zero_add, List.nil_append] at hown1; have HO1 := Lib.hid hown1; have HB1 := Lib.hid (((Below.refl w0.heap.size w0).alloc (Nat.le_refl _) (.cells #[] 5)).grown hgrow1 (Nat.le_of_lt (by simp)) (fun k hk => by cases hk; exact Nat.le_refl _)); clear hown1 hgrow1 hnil1 hg1))
  obtain ⟨B, hB⟩ : ∃ B, B = w0.heap.size := ⟨_, rfl⟩
  rw [← hB] at HO1 HB1
  have HBs := Lib.hid hB; clear hB
  have HG1 := Lib.hid (row_base HO1.out)
  clear hmod hl hr
  go_loopw [9] (fun i wr => ∃ (k : Nat) (m : List Nat), k ≤ 32 ∧ K + k ≤ 8 * l.length ∧ i = .int .i64 k ∧ Hid (wr.ownsRow B 5 1 (.slice (some ⟨g1, 0, none⟩) l.length c1) l.length (u8s m)) ∧ Hid (Turned l K row k m) ∧ Hid (Below B w0 wr)) (fun i _ => (32 - (intOf i)).toNat)
  case atStart => exact ⟨0, l, by omega, by omega, rfl, HO1, Lib.hid ⟨rfl, HZ.out, by simp [Nat.mod_one]⟩, HB1⟩
  case round =>
    obtain ⟨k, m, hk, hKk, rfl, HOr, HT, HBr⟩ := hrel
    by_cases hlt : k < 32 ∧ K + k < 8 * l.length
    · obtain ⟨hlt1, hlt2⟩ := hlt
      have hml : m.length = l.length := HT.out.1
      have hj : (K + k) / 8 < l.length := by omega
      have hold := HOr.out.cellAt ((K + k) / 8) (by omega)
      rw [List.getElem?_eq_getElem (by rw [u8s_length]; omega)] at hold
      simp only [u8s, List.getElem_map] at hold
      obtain ⟨d, hd⟩ : ∃ d : Nat, d = m[(K + k) / 8]'(by omega) := ⟨_, rfl⟩
      rw [← hd] at hold
      have hd2 : d < 256 := by rw [hd]; exact HT.out.2.1 _ (List.getElem_mem _)
      have hfz := HOr.out.frozenAt ((K + k) / 8)
      have HD : Hid (m[(K + k) / 8]? = some d) := Lib.hid (by rw [hd]; exact List.getElem?_eq_getElem _)
      clear hd
      have HML := Lib.hid hml; clear hml
      by_cases hbt : row.testBit k = true
      · have e1 : (bits .and .u32 ((row : Int) / 2 ^ k) 1 == 1) = true := bit_yes hr2 hbt
        have HBT := Lib.hid hbt; clear hbt
        go_wp2
        go_roundw
        case rel => refine ⟨k + 1, m.set ((K + k) / 8) (d ^^^ 2 ^ ((K + k) % 8)), by omega, by omega, by go_num, Lib.hid (row_turned HOr.out hd2 (Nat.mod_lt _ (by omega))), Lib.hid (turned_step HT.out HBT.out HD.out), Lib.hid (HBr.out.setCell HG1.out.1 _)⟩
        case measure => simp [intOf]; omega
      · have e1 : (bits .and .u32 ((row : Int) / 2 ^ k) 1 == 1) = false := bit_no hr2 hbt
        have HBT := Lib.hid hbt; clear hbt
        go_wp2
        go_roundw
        case rel => refine ⟨k + 1, m, by omega, by omega, by go_num, HOr, Lib.hid (turned_skip HT.out HBT.out), HBr⟩
        case measure => simp [intOf]; omega
    · have hT := HT.out
      have hd32 : row % 2 ^ k < 4294967296 := Nat.lt_of_le_of_lt (Nat.mod_le _ _) hr2
      have HMT : Hid (more 0 l = more 0 m ↔ l = m) := Lib.hid (more_tells hT.1.symm HZ.out hT.2.1 hd32 (by omega) hT.2.2 0)
      have hbm := row_bytes HOr.out hT.1 hT.2.1 HM.out
      have hbw : Below w.heap.size w wr := HB0.out.trans (HBr.out.mono (by have := HB0.out.size; have := HBs.out; omega))
      have hbl := HBY.out _ hbw
      have hn : ∀ n, Below wr.heap.size wr (wr.drewN n) := fun n => below_drewN (Below.refl _ _) n
      have k1 : ∀ n, (convert 27 9 (.slice (some ad) l.length cap)).run Tryd.prog (wr.drewN n) = .ok (.string (str l)) (wr.drewN n) := fun n => conv_bytes (bytes_below hbl (hn n)) (by intro h; cases h) cap
      have k2 : ∀ n, (convert 27 9 (.slice (some ⟨g1, 0, none⟩) m.length c1)).run Tryd.prog (wr.drewN n) = .ok (.string (str m)) (wr.drewN n) := fun n => conv_bytes (bytes_below hbm (hn n)) (by intro h; cases h) c1
      have Ho1 : ∀ n, Calls Tryd.prog 8 #[.slice (some ad) l.length cap] (wr.drewN n) fun e w' => e = .returned (.int .u32 (more 0 l : Int)) ∧ w' = wr.drewN n := fun n => (of_any _ cap l _ (bytes_below hbl (hn n)) (tab_below (tab_below HTb.out hbw) (hn n))).mono fun _ _ h => ⟨h.1, h.2.symm⟩
      have Ho2 : ∀ n, Calls Tryd.prog 8 #[.slice (some ⟨g1, 0, none⟩) m.length c1] (wr.drewN n) fun e w' => e = .returned (.int .u32 (more 0 m : Int)) ∧ w' = wr.drewN n := fun n => (of_any _ c1 m _ (bytes_below hbm (hn n)) (tab_below (tab_below HTb.out hbw) (hn n))).mono fun _ _ h => ⟨h.1, h.2.symm⟩
      rw [hT.1] at k2 Ho2
      have HH1 := Lib.hid Ho1; clear Ho1
      have HH2 := Lib.hid Ho2; clear Ho2
      have HBw := Lib.hid hbw
      obtain ⟨x, hx⟩ : ∃ x, x = more 0 l := ⟨_, rfl⟩
      obtain ⟨y, hy⟩ : ∃ y, y = more 0 m := ⟨_, rfl⟩
      rw [← hx] at HH1 HMT
      rw [← hy] at HH2 HMT
      obtain ⟨s, hs⟩ : ∃ s, s = str l := ⟨_, rfl⟩
      obtain ⟨t, ht⟩ : ∃ t, t = str m := ⟨_, rfl⟩
      rw [← hs] at k1
      rw [← ht] at k2
      have HST : Hid (s = t ↔ l = m) := Lib.hid (by
        rw [hs, ht]
        exact ⟨str_inj HZ.out hT.2.1, fun h => by rw [h]⟩)
      clear hx hy hs ht hT hbm hbl hbw hd32 hn
      have hr1 : ∃ c : Bool, ((x : Int) == (y : Int)) = c ∧ (s.toList == t.toList) = c := by
        by_cases h : l = m
        · exact ⟨true, by rw [HMT.out.2 h]; simp, by rw [HST.out.2 h]; simp⟩
        · refine ⟨false, ?_, ?_⟩
          · rw [beq_eq_false_iff_ne]
            intro e
            exact h (HMT.out.1 (by omega))
          · rw [beq_eq_false_iff_ne]
            intro e
            exact h (HST.out.1 (ba_inj e))
      obtain ⟨c, r1, r2⟩ := hr1
      by_cases h32 : k < 32
      all_goals
        go_wp2
        go_quiet ((first | (go_at_call 8; exact Calls.quiet_of_same (HH1.out _)) | (go_at_call 8; exact Calls.quiet_of_same (HH2.out _))))
        go_wp2
        go_ret
        exact ⟨by first | rfl | exact ret_bool (by simp), below_drewN HBw.out _⟩
set_option maxHeartbeats 1600000 in
theorem tell_neg (ad : Addr) (cap : Nat) (l : List Nat) (bit : Int) (row : Nat) (w : World) (hb : BytesAt w (some ad) l) (hreach : l.length ≤ 140737488351232) (hT : TabAt w) (hl : 0 < l.length) (hr : 0 < row) (hr2 : row < 4294967296) (K : Nat) (hK : K < 8 * l.length) (hK0 : 0 < K) (hmod : bit.tmod (8 * (l.length : Int)) = -(K : Int)) :
    Calls Tryd.prog 5 #[.slice (some ad) l.length cap, .int .i64 bit, .int .u32 (row : Int)] w (True' w) := by
  obtain ⟨i0, hi, hz0, hz1, hz2⟩ := info_parts info5
  have hm : l.length ≤ maxLen := hb.2.1
  have HZ := Lib.hid hb.1
  have HA := Lib.hid (awake_any w hT)
  have HBY : Hid (∀ w', Below w.heap.size w w' → BytesAt w' (some ad) l) := Lib.hid (fun w' h => bytes_below hb h)
  have HTb := Lib.hid hT
  clear hT hb
  have HM := Lib.hid hm
  unfold maxLen at hm
  have HU1 := Lib.hid (u8s_one l)
  have HUL : Hid ((u8s l).length = l.length * 1) := Lib.hid (by simp [u8s])
  have HM1 : Hid (0 + l.length ≤ maxLen) := Lib.hid (by have := HM.out; omega)
  have HM2 : Hid ((0 + l.length) * 1 ≤ 140737488355328) := Lib.hid (by omega)
  have hl0 : ((l.length : Int) == 0) = false := by rw [beq_eq_false_iff_ne]; omega
  have hr0 : ((row : Int) == 0) = false := by simp; omega
  go_enter Tryd.func5, Tryd.ntmps5
  go_wp2_with (first | (go_at_call 10; refine HA.out.mono ?_; rintro e w0 ⟨rfl, hb0⟩; have HB0 := Lib.hid hb0; clear hb0) | (at_builtin; refine wpList_append_own _ rfl (.tmp 28) (.tmp 29) 27 rfl w0.heap.size 5 i0 (.int .u8 0) 1 1 Tryd.underlying27 hi hz0 hz1 hz2 rfl (by decide) _ _ _ rfl (World.ownsRow_made w0 #[] 0 (Nat.le_refl _) (Nat.zero_le _) rfl) ad l.length cap (u8s l) rfl HUL.out (fun j u h => cell_alloc (bytes_cells (HBY.out _ HB0.out) j u h) _) HU1.out HM1.out HM2.out (Nat.le_of_lt (by simp)) ?_; intro v1 w1 hown1 hgrow1 hnil1; obtain ⟨g1, c1, rfl, hg1⟩ := own_form hown1 (fun h => by have := (hnil1.1 h).1; cases this); simp only [Nat.zero_add, List.nil_append] at hown1; have HO1 := Lib.hid hown1; have HB1 := Lib.hid (((Below.refl w0.heap.size w0).alloc (Nat.le_refl _) (.cells #[] 5)).grown hgrow1 (Nat.le_of_lt (by simp)) (fun k hk => by cases hk; exact Nat.le_refl _)); clear hown1 hgrow1 hnil1 hg1))
  obtain ⟨B, hB⟩ : ∃ B, B = w0.heap.size := ⟨_, rfl⟩
  rw [← hB] at HO1 HB1
  have HBs := Lib.hid hB; clear hB
  have HG1 := Lib.hid (row_base HO1.out)
  clear hmod hl hr
  go_loopw [9] (fun i wr => ∃ (k : Nat) (m : List Nat), k ≤ 32 ∧ K + k ≤ 8 * l.length ∧ i = .int .i64 k ∧ Hid (wr.ownsRow B 5 1 (.slice (some ⟨g1, 0, none⟩) l.length c1) l.length (u8s m)) ∧ Hid (Turned l K row k m) ∧ Hid (Below B w0 wr)) (fun i _ => (32 - (intOf i)).toNat)
  case atStart => exact ⟨0, l, by omega, by omega, rfl, HO1, Lib.hid ⟨rfl, HZ.out, by simp [Nat.mod_one]⟩, HB1⟩
  case round =>
    obtain ⟨k, m, hk, hKk, rfl, HOr, HT, HBr⟩ := hrel
    by_cases hlt : k < 32 ∧ K + k < 8 * l.length
    · obtain ⟨hlt1, hlt2⟩ := hlt
      have hml : m.length = l.length := HT.out.1
      have hj : (K + k) / 8 < l.length := by omega
      have hold := HOr.out.cellAt ((K + k) / 8) (by omega)
      rw [List.getElem?_eq_getElem (by rw [u8s_length]; omega)] at hold
      simp only [u8s, List.getElem_map] at hold
      obtain ⟨d, hd⟩ : ∃ d : Nat, d = m[(K + k) / 8]'(by omega) := ⟨_, rfl⟩
      rw [← hd] at hold
      have hd2 : d < 256 := by rw [hd]; exact HT.out.2.1 _ (List.getElem_mem _)
      have hfz := HOr.out.frozenAt ((K + k) / 8)
      have HD : Hid (m[(K + k) / 8]? = some d) := Lib.hid (by rw [hd]; exact List.getElem?_eq_getElem _)
      clear hd
      have HML := Lib.hid hml; clear hml
      by_cases hbt : row.testBit k = true
      · have e1 : (bits .and .u32 ((row : Int) / 2 ^ k) 1 == 1) = true := bit_yes hr2 hbt
        have HBT := Lib.hid hbt; clear hbt
        go_wp2
        go_roundw
        case rel => refine ⟨k + 1, m.set ((K + k) / 8) (d ^^^ 2 ^ ((K + k) % 8)), by omega, by omega, by go_num, Lib.hid (row_turned HOr.out hd2 (Nat.mod_lt _ (by omega))), Lib.hid (turned_step HT.out HBT.out HD.out), Lib.hid (HBr.out.setCell HG1.out.1 _)⟩
        case measure => simp [intOf]; omega
      · have e1 : (bits .and .u32 ((row : Int) / 2 ^ k) 1 == 1) = false := bit_no hr2 hbt
        have HBT := Lib.hid hbt; clear hbt
        go_wp2
        go_roundw
        case rel => refine ⟨k + 1, m, by omega, by omega, by go_num, HOr, Lib.hid (turned_skip HT.out HBT.out), HBr⟩
        case measure => simp [intOf]; omega
    · have hT := HT.out
      have hd32 : row % 2 ^ k < 4294967296 := Nat.lt_of_le_of_lt (Nat.mod_le _ _) hr2
      have HMT : Hid (more 0 l = more 0 m ↔ l = m) := Lib.hid (more_tells hT.1.symm HZ.out hT.2.1 hd32 (by omega) hT.2.2 0)
      have hbm := row_bytes HOr.out hT.1 hT.2.1 HM.out
      have hbw : Below w.heap.size w wr := HB0.out.trans (HBr.out.mono (by have := HB0.out.size; have := HBs.out; omega))
      have hbl := HBY.out _ hbw
      have hn : ∀ n, Below wr.heap.size wr (wr.drewN n) := fun n => below_drewN (Below.refl _ _) n
      have k1 : ∀ n, (convert 27 9 (.slice (some ad) l.length cap)).run Tryd.prog (wr.drewN n) = .ok (.string (str l)) (wr.drewN n) := fun n => conv_bytes (bytes_below hbl (hn n)) (by intro h; cases h) cap
      have k2 : ∀ n, (convert 27 9 (.slice (some ⟨g1, 0, none⟩) m.length c1)).run Tryd.prog (wr.drewN n) = .ok (.string (str m)) (wr.drewN n) := fun n => conv_bytes (bytes_below hbm (hn n)) (by intro h; cases h) c1
      have Ho1 : ∀ n, Calls Tryd.prog 8 #[.slice (some ad) l.length cap] (wr.drewN n) fun e w' => e = .returned (.int .u32 (more 0 l : Int)) ∧ w' = wr.drewN n := fun n => (of_any _ cap l _ (bytes_below hbl (hn n)) (tab_below (tab_below HTb.out hbw) (hn n))).mono fun _ _ h => ⟨h.1, h.2.symm⟩
      have Ho2 : ∀ n, Calls Tryd.prog 8 #[.slice (some ⟨g1, 0, none⟩) m.length c1] (wr.drewN n) fun e w' => e = .returned (.int .u32 (more 0 m : Int)) ∧ w' = wr.drewN n := fun n => (of_any _ c1 m _ (bytes_below hbm (hn n)) (tab_below (tab_below HTb.out hbw) (hn n))).mono fun _ _ h => ⟨h.1, h.2.symm⟩
      rw [hT.1] at k2 Ho2
      have HH1 := Lib.hid Ho1; clear Ho1
      have HH2 := Lib.hid Ho2; clear Ho2
      have HBw := Lib.hid hbw
      obtain ⟨x, hx⟩ : ∃ x, x = more 0 l := ⟨_, rfl⟩
      obtain ⟨y, hy⟩ : ∃ y, y = more 0 m := ⟨_, rfl⟩
      rw [← hx] at HH1 HMT
      rw [← hy] at HH2 HMT
      obtain ⟨s, hs⟩ : ∃ s, s = str l := ⟨_, rfl⟩
      obtain ⟨t, ht⟩ : ∃ t, t = str m := ⟨_, rfl⟩
      rw [← hs] at k1
      rw [← ht] at k2
      have HST : Hid (s = t ↔ l = m) := Lib.hid (by
        rw [hs, ht]
        exact ⟨str_inj HZ.out hT.2.1, fun h => by rw [h]⟩)
      clear hx hy hs ht hT hbm hbl hbw hd32 hn
      have hr1 : ∃ c : Bool, ((x : Int) == (y : Int)) = c ∧ (s.toList == t.toList) = c := by
        by_cases h : l = m
        · exact ⟨true, by rw [HMT.out.2 h]; simp, by rw [HST.out.2 h]; simp⟩
        · refine ⟨false, ?_, ?_⟩
          · rw [beq_eq_false_iff_ne]
            intro e
            exact h (HMT.out.1 (by omega))
          · rw [beq_eq_false_iff_ne]
            intro e
            exact h (HST.out.1 (ba_inj e))
      obtain ⟨c, r1, r2⟩ := hr1
      by_cases h32 : k < 32
      all_goals
        go_wp2
        go_quiet ((first | (go_at_call 8; exact Calls.quiet_of_same (HH1.out _)) | (go_at_call 8; exact Calls.quiet_of_same (HH2.out _))))
        go_wp2
        go_ret
        exact ⟨by first | rfl | exact ret_bool (by simp), below_drewN HBw.out _⟩
end Go.Proofs.YtflepcoiidaekaaDoor

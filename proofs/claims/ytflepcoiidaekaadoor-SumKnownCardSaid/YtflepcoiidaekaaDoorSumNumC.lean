/- SumNumbers where the number is laid: walks. -/
import Derived.Test.YtflepcoiidaekaaDoorSumNumA
namespace Go.Proofs.YtflepcoiidaekaaDoor
open Go.ChangeShapes Go.WideShapes Go.ChangeAt Go.RowKit

/-- What the document's Put leaves, cell by cell. -/
def RefPut (n S : Nat) (w : World) (e : Ending) (w' : World) : Prop :=
  ∃ g c, e = .returned (.slice (some ⟨g, 0, none⟩) S c) ∧ (∀ k, k < S → w'.cell? ⟨g, k, none⟩ = some (.int .u8 ((n / 2 ^ (8 * k) % 256 : Nat) : Int))) ∧ Below w.heap.size w w'
theorem refput_cells (n S : Nat) (w : World) (hs : 1 ≤ S ∧ S ≤ 8) :
    Calls Tryd.prog 14 #[.int .u64 (n : Int), .int .i64 (S : Int)] w (RefPut n S w) := by
  refine (refput_any n S w hs).mono fun e w' h => ?_
  obtain ⟨g, c, h1, h2, h3⟩ := h
  rw [bytesOf_length] at h1 h2
  refine ⟨g, c, h1, fun k hk => ?_, h3⟩
  rw [h2.cellAt k (by omega)]
  simp [u8s, bytesOf, hk]
theorem own_pos {w : World} {base : Nat} {v : Value} {n : Nat} {xs : List Value} (h : w.ownsRow base 5 1 v n xs) (hn : 0 < n) : ∃ g cap, v = .slice (some ⟨g, 0, none⟩) n cap ∧ base ≤ g := by
  refine own_form h ?_
  rintro rfl
  rcases h.2 with ⟨_, h⟩ | ⟨g, cap, cur, h, _⟩
  · omega
  · cases h
theorem row_lt {w : World} {B g n c : Nat} {xs : List Value} (h : w.ownsRow B 5 1 (.slice (some ⟨g, 0, none⟩) n c) n xs) : g < w.heap.size := (h.lt g rfl).2

set_option maxHeartbeats 1600000 in
theorem num_good1 (a : Option Addr) (cap : Nat) (zs : List Nat) (q n : Nat) (w : World) (hb : BytesAt w a zs) (hreach : zs.length ≤ 140737488355328) (hT : TabAt w) (h1 : q + 1 ≤ zs.length) (hn : n < 2 ^ (8 * 1)) :
    Calls Tryd.prog 4 #[.slice a zs.length cap, .int .i64 (q : Int), .int .i64 1, .int .u64 (n : Int)] w (True' w) := by
  obtain ⟨ad, rfl⟩ : ∃ ad, a = some ad := by
    obtain ⟨b, off, e, _⟩ := hb.2.2 q (by omega)
    exact ⟨_, e⟩
  obtain ⟨i0, hi, hz0, hz1, hz2⟩ := info_parts info5
  have hm := hb.2.1
  have HZ := Lib.hid hb.1
  have HP := Lib.hid (put_yes ad cap zs q n 1 w hb hreach (by omega) h1 hn)
  have HG : Hid (∀ w', Below w.heap.size w w' → Calls Tryd.prog 12 #[.slice (some ad) zs.length cap, .int .i64 (q : Int), .int .i64 (1 : Int)] w' fun e w2 => e = .returned (.tuple #[.int .u64 (num ((zs.drop q).take (1 : Int).toNat) : Int), .int .i64 0]) ∧ w' = w2) :=
    Lib.hid (fun w' h => get_yes (some ad) cap zs q 1 w' (bytes_below hb h) (by omega) (by omega))
  have HA : Hid (∀ w', Below w.heap.size w w' → Calls Tryd.prog 10 #[] w' fun e w2 => e = .returned (.bool true) ∧ Below w'.heap.size w' w2) :=
    Lib.hid (fun w' h => awake_any w' (tab_below hT h))
  have HR : Hid (∀ w', Below w.heap.size w w' → Calls Tryd.prog 13 #[.slice (some ad) zs.length cap, .int .i64 (q : Int), .int .i64 (1 : Int)] w' fun e w2 => e = .returned (.int .u64 (num ((zs.drop q).take (1 : Int).toNat) : Int)) ∧ w' = w2) :=
    Lib.hid (fun w' h => refget_any (some ad) cap zs q 1 w' (bytes_below hb h) (by omega) h1)
  have HBY : Hid (∀ w', Below w.heap.size w w' → BytesAt w' (some ad) zs) := Lib.hid (fun w' h => bytes_below hb h)
  clear hT hb
  have HM := Lib.hid hm
  unfold maxLen at hm
  obtain ⟨x, hx⟩ : ∃ x, x = num ((zs.drop q).take (1 : Int).toNat) := ⟨_, rfl⟩
  rw [← hx] at HG HR
  clear hx
  have hn' : n < 256 := hn
  clear hn
  have hd : decide (0 < (n : Int) / 256) = false := decide_eq_false (by omega)
  go_enter Tryd.func4, Tryd.ntmps4
  go_wp2_with (first | (go_at_call 9; refine HP.out.mono ?_; rintro e w1 ⟨g1, c1, rfl, ho1, hb1⟩; have HO1 := Lib.hid ho1; have HB1 := Lib.hid hb1; clear ho1 hb1) | (go_at_call 12; refine (HG.out _ HB1.out).mono ?_; rintro e w' ⟨rfl, rfl⟩) | (go_at_call 10; refine (HA.out _ HB1.out).mono ?_; rintro e w2 ⟨rfl, hb⟩; have HB2 := Lib.hid (HB1.out.trans (hb.mono HB1.out.size)); have HO2 := Lib.hid (row_kept HO1.out hb); clear hb) | (go_at_call 13; refine (HR.out _ HB2.out).mono ?_; rintro e w' ⟨rfl, rfl⟩) | (at_builtin; refine wpList_append_own _ rfl _ _ 27 rfl _ 5 i0 (.int .u8 0) 1 1 Tryd.underlying27 hi hz0 hz1 hz2 rfl (by decide) _ _ _ rfl (World.ownsRow_nil _ _ _ _) ad zs.length cap (u8s zs) rfl (by simp [u8s]) (bytes_cells (HBY.out _ HB2.out)) (u8s_one zs) ?c3 ?c4 (Nat.le_refl _) ?_))
  case c3 => have := HM.out; omega
  case c4 => omega
  intro v' w3 hown hgrow hnil
  obtain ⟨g2, c2, rfl, hg2⟩ := own_pos hown (by omega)
  have HO3 := Lib.hid hown
  have HG2 := Lib.hid hg2
  have HB3 : Hid (Below w2.heap.size w2 w3) := Lib.hid ((Below.refl _ _).grown hgrow (Nat.le_refl _) (by intro k hk; simp [Value.ownBlock] at hk))
  clear hown hgrow hnil hg2
  have HBy : Hid (∀ w', Below w2.heap.size w2 w' → BytesAt w' (some ⟨g1, 0, none⟩) (lay zs q n 1)) :=
    Lib.hid (fun w' h => bytes_below (row_bytes HO2.out (lay_length _ _ _ _) (lay_bytes q n HZ.out _) HM.out) h)
  go_wp2
  obtain ⟨B, hB⟩ : ∃ B, B = w2.heap.size := ⟨_, rfl⟩
  rw [← hB] at HO3 HG2 HB3 HBy
  have HBs := Lib.hid hB; clear hB
  go_loopw [14] (fun i wr => ∃ k : Nat, (k : Int) ≤ 1 ∧ i = .int .i64 k ∧ Hid (wr.ownsRow B 5 1 (.slice (some ⟨g2, 0, none⟩) zs.length c2) zs.length (u8s (lay zs q n k))) ∧ Hid (Below B w2 wr)) (fun i _ => (1 - (intOf i)).toNat)
  case atStart => exact ⟨0, by omega, rfl, HO3, HB3⟩
  case round =>
    obtain ⟨k, hk, rfl, HOr, HBr⟩ := hrel
    by_cases hlt : (k : Int) < 1
    · have HF : Hid (Calls Tryd.prog 14 #[.int .u64 (n : Int), .int .i64 (1 : Int)] wr (RefPut n 1 wr)) := Lib.hid (refput_cells n 1 wr (by omega))
      have HQ : Hid (q + k < (u8s (lay zs q n k)).length) := Lib.hid (by simp [u8s, lay_length]; omega)
      have HSZ : Hid (B ≤ wr.heap.size) := Lib.hid (by have := HBr.out.size; have := HBs.out; omega)
      clear hn'
      go_wp2_with (go_at_call 14; refine HF.out.mono ?_; rintro e w4 ⟨g3, c3, rfl, hc3, hb4⟩; have hcell3 := hc3 k (by omega); have hrow := row_kept HOr.out hb4; have hold := hrow.cellAt (q + k) (by omega); rw [List.getElem?_eq_getElem HQ.out] at hold; have hfz := hrow.frozenAt (q + k); have HO4 := Lib.hid hrow; have HB4 := Lib.hid (HBr.out.trans (hb4.mono HSZ.out)); clear hc3 hb4 hrow)
      go_roundw
      case rel => exact ⟨k + 1, by omega, by go_num, Lib.hid (lay_step HO4.out rfl), Lib.hid (HB4.out.setCell HG2.out _)⟩
      case measure => simp [intOf]; omega
    · obtain rfl : k = 1 := by omega
      have hL := row_bytes HOr.out (lay_length _ _ _ _) (lay_bytes q n HZ.out _) HM.out
      have hP := HBy.out _ HBr.out
      have k1 := conv_bytes hL (by intro h; cases h) c2
      have k2 := conv_bytes hP (by intro h; cases h) zs.length
      rw [lay_length] at k1 k2
      obtain ⟨t, ht⟩ : ∃ t, t = str (lay zs q n 1) := ⟨_, rfl⟩
      rw [← ht] at k1 k2
      clear ht hL hP
      have HE : Hid (Below w.heap.size w wr) := Lib.hid (HB2.out.trans (HBr.out.mono (by have := HB2.out.size; have := HBs.out; omega)))
      go_wp2
      go_ret
      exact ⟨rfl, HE.out⟩
set_option maxHeartbeats 1600000 in
theorem num_good2 (a : Option Addr) (cap : Nat) (zs : List Nat) (q n : Nat) (w : World) (hb : BytesAt w a zs) (hreach : zs.length ≤ 140737488355328) (hT : TabAt w) (h1 : q + 2 ≤ zs.length) (hn : n < 2 ^ (8 * 2)) :
    Calls Tryd.prog 4 #[.slice a zs.length cap, .int .i64 (q : Int), .int .i64 2, .int .u64 (n : Int)] w (True' w) := by
  obtain ⟨ad, rfl⟩ : ∃ ad, a = some ad := by
    obtain ⟨b, off, e, _⟩ := hb.2.2 q (by omega)
    exact ⟨_, e⟩
  obtain ⟨i0, hi, hz0, hz1, hz2⟩ := info_parts info5
  have hm := hb.2.1
  have HZ := Lib.hid hb.1
  have HP := Lib.hid (put_yes ad cap zs q n 2 w hb hreach (by omega) h1 hn)
  have HG : Hid (∀ w', Below w.heap.size w w' → Calls Tryd.prog 12 #[.slice (some ad) zs.length cap, .int .i64 (q : Int), .int .i64 (2 : Int)] w' fun e w2 => e = .returned (.tuple #[.int .u64 (num ((zs.drop q).take (2 : Int).toNat) : Int), .int .i64 0]) ∧ w' = w2) :=
    Lib.hid (fun w' h => get_yes (some ad) cap zs q 2 w' (bytes_below hb h) (by omega) (by omega))
  have HA : Hid (∀ w', Below w.heap.size w w' → Calls Tryd.prog 10 #[] w' fun e w2 => e = .returned (.bool true) ∧ Below w'.heap.size w' w2) :=
    Lib.hid (fun w' h => awake_any w' (tab_below hT h))
  have HR : Hid (∀ w', Below w.heap.size w w' → Calls Tryd.prog 13 #[.slice (some ad) zs.length cap, .int .i64 (q : Int), .int .i64 (2 : Int)] w' fun e w2 => e = .returned (.int .u64 (num ((zs.drop q).take (2 : Int).toNat) : Int)) ∧ w' = w2) :=
    Lib.hid (fun w' h => refget_any (some ad) cap zs q 2 w' (bytes_below hb h) (by omega) h1)
  have HBY : Hid (∀ w', Below w.heap.size w w' → BytesAt w' (some ad) zs) := Lib.hid (fun w' h => bytes_below hb h)
  clear hT hb
  have HM := Lib.hid hm
  unfold maxLen at hm
  obtain ⟨x, hx⟩ : ∃ x, x = num ((zs.drop q).take (2 : Int).toNat) := ⟨_, rfl⟩
  rw [← hx] at HG HR
  clear hx
  have hn' : n < 65536 := hn
  clear hn
  have hd : decide (0 < (n : Int) / 65536) = false := decide_eq_false (by omega)
  go_enter Tryd.func4, Tryd.ntmps4
  go_wp2_with (first | (go_at_call 9; refine HP.out.mono ?_; rintro e w1 ⟨g1, c1, rfl, ho1, hb1⟩; have HO1 := Lib.hid ho1; have HB1 := Lib.hid hb1; clear ho1 hb1) | (go_at_call 12; refine (HG.out _ HB1.out).mono ?_; rintro e w' ⟨rfl, rfl⟩) | (go_at_call 10; refine (HA.out _ HB1.out).mono ?_; rintro e w2 ⟨rfl, hb⟩; have HB2 := Lib.hid (HB1.out.trans (hb.mono HB1.out.size)); have HO2 := Lib.hid (row_kept HO1.out hb); clear hb) | (go_at_call 13; refine (HR.out _ HB2.out).mono ?_; rintro e w' ⟨rfl, rfl⟩) | (at_builtin; refine wpList_append_own _ rfl _ _ 27 rfl _ 5 i0 (.int .u8 0) 1 1 Tryd.underlying27 hi hz0 hz1 hz2 rfl (by decide) _ _ _ rfl (World.ownsRow_nil _ _ _ _) ad zs.length cap (u8s zs) rfl (by simp [u8s]) (bytes_cells (HBY.out _ HB2.out)) (u8s_one zs) ?c3 ?c4 (Nat.le_refl _) ?_))
  case c3 => have := HM.out; omega
  case c4 => omega
  intro v' w3 hown hgrow hnil
  obtain ⟨g2, c2, rfl, hg2⟩ := own_pos hown (by omega)
  have HO3 := Lib.hid hown
  have HG2 := Lib.hid hg2
  have HB3 : Hid (Below w2.heap.size w2 w3) := Lib.hid ((Below.refl _ _).grown hgrow (Nat.le_refl _) (by intro k hk; simp [Value.ownBlock] at hk))
  clear hown hgrow hnil hg2
  have HBy : Hid (∀ w', Below w2.heap.size w2 w' → BytesAt w' (some ⟨g1, 0, none⟩) (lay zs q n 2)) :=
    Lib.hid (fun w' h => bytes_below (row_bytes HO2.out (lay_length _ _ _ _) (lay_bytes q n HZ.out _) HM.out) h)
  go_wp2
  obtain ⟨B, hB⟩ : ∃ B, B = w2.heap.size := ⟨_, rfl⟩
  rw [← hB] at HO3 HG2 HB3 HBy
  have HBs := Lib.hid hB; clear hB
  go_loopw [14] (fun i wr => ∃ k : Nat, (k : Int) ≤ 2 ∧ i = .int .i64 k ∧ Hid (wr.ownsRow B 5 1 (.slice (some ⟨g2, 0, none⟩) zs.length c2) zs.length (u8s (lay zs q n k))) ∧ Hid (Below B w2 wr)) (fun i _ => (2 - (intOf i)).toNat)
  case atStart => exact ⟨0, by omega, rfl, HO3, HB3⟩
  case round =>
    obtain ⟨k, hk, rfl, HOr, HBr⟩ := hrel
    by_cases hlt : (k : Int) < 2
    · have HF : Hid (Calls Tryd.prog 14 #[.int .u64 (n : Int), .int .i64 (2 : Int)] wr (RefPut n 2 wr)) := Lib.hid (refput_cells n 2 wr (by omega))
      have HQ : Hid (q + k < (u8s (lay zs q n k)).length) := Lib.hid (by simp [u8s, lay_length]; omega)
      have HSZ : Hid (B ≤ wr.heap.size) := Lib.hid (by have := HBr.out.size; have := HBs.out; omega)
      clear hn'
      go_wp2_with (go_at_call 14; refine HF.out.mono ?_; rintro e w4 ⟨g3, c3, rfl, hc3, hb4⟩; have hcell3 := hc3 k (by omega); have hrow := row_kept HOr.out hb4; have hold := hrow.cellAt (q + k) (by omega); rw [List.getElem?_eq_getElem HQ.out] at hold; have hfz := hrow.frozenAt (q + k); have HO4 := Lib.hid hrow; have HB4 := Lib.hid (HBr.out.trans (hb4.mono HSZ.out)); clear hc3 hb4 hrow)
      go_roundw
      case rel => exact ⟨k + 1, by omega, by go_num, Lib.hid (lay_step HO4.out rfl), Lib.hid (HB4.out.setCell HG2.out _)⟩
      case measure => simp [intOf]; omega
    · obtain rfl : k = 2 := by omega
      have hL := row_bytes HOr.out (lay_length _ _ _ _) (lay_bytes q n HZ.out _) HM.out
      have hP := HBy.out _ HBr.out
      have k1 := conv_bytes hL (by intro h; cases h) c2
      have k2 := conv_bytes hP (by intro h; cases h) zs.length
      rw [lay_length] at k1 k2
      obtain ⟨t, ht⟩ : ∃ t, t = str (lay zs q n 2) := ⟨_, rfl⟩
      rw [← ht] at k1 k2
      clear ht hL hP
      have HE : Hid (Below w.heap.size w wr) := Lib.hid (HB2.out.trans (HBr.out.mono (by have := HB2.out.size; have := HBs.out; omega)))
      go_wp2
      go_ret
      exact ⟨rfl, HE.out⟩
set_option maxHeartbeats 1600000 in
theorem num_good4 (a : Option Addr) (cap : Nat) (zs : List Nat) (q n : Nat) (w : World) (hb : BytesAt w a zs) (hreach : zs.length ≤ 140737488355328) (hT : TabAt w) (h1 : q + 4 ≤ zs.length) (hn : n < 2 ^ (8 * 4)) :
    Calls Tryd.prog 4 #[.slice a zs.length cap, .int .i64 (q : Int), .int .i64 4, .int .u64 (n : Int)] w (True' w) := by
  obtain ⟨ad, rfl⟩ : ∃ ad, a = some ad := by
    obtain ⟨b, off, e, _⟩ := hb.2.2 q (by omega)
    exact ⟨_, e⟩
  obtain ⟨i0, hi, hz0, hz1, hz2⟩ := info_parts info5
  have hm := hb.2.1
  have HZ := Lib.hid hb.1
  have HP := Lib.hid (put_yes ad cap zs q n 4 w hb hreach (by omega) h1 hn)
  have HG : Hid (∀ w', Below w.heap.size w w' → Calls Tryd.prog 12 #[.slice (some ad) zs.length cap, .int .i64 (q : Int), .int .i64 (4 : Int)] w' fun e w2 => e = .returned (.tuple #[.int .u64 (num ((zs.drop q).take (4 : Int).toNat) : Int), .int .i64 0]) ∧ w' = w2) :=
    Lib.hid (fun w' h => get_yes (some ad) cap zs q 4 w' (bytes_below hb h) (by omega) (by omega))
  have HA : Hid (∀ w', Below w.heap.size w w' → Calls Tryd.prog 10 #[] w' fun e w2 => e = .returned (.bool true) ∧ Below w'.heap.size w' w2) :=
    Lib.hid (fun w' h => awake_any w' (tab_below hT h))
  have HR : Hid (∀ w', Below w.heap.size w w' → Calls Tryd.prog 13 #[.slice (some ad) zs.length cap, .int .i64 (q : Int), .int .i64 (4 : Int)] w' fun e w2 => e = .returned (.int .u64 (num ((zs.drop q).take (4 : Int).toNat) : Int)) ∧ w' = w2) :=
    Lib.hid (fun w' h => refget_any (some ad) cap zs q 4 w' (bytes_below hb h) (by omega) h1)
  have HBY : Hid (∀ w', Below w.heap.size w w' → BytesAt w' (some ad) zs) := Lib.hid (fun w' h => bytes_below hb h)
  clear hT hb
  have HM := Lib.hid hm
  unfold maxLen at hm
  obtain ⟨x, hx⟩ : ∃ x, x = num ((zs.drop q).take (4 : Int).toNat) := ⟨_, rfl⟩
  rw [← hx] at HG HR
  clear hx
  have hn' : n < 4294967296 := hn
  clear hn
  have hd : decide (0 < (n : Int) / 4294967296) = false := decide_eq_false (by omega)
  go_enter Tryd.func4, Tryd.ntmps4
  go_wp2_with (first | (go_at_call 9; refine HP.out.mono ?_; rintro e w1 ⟨g1, c1, rfl, ho1, hb1⟩; have HO1 := Lib.hid ho1; have HB1 := Lib.hid hb1; clear ho1 hb1) | (go_at_call 12; refine (HG.out _ HB1.out).mono ?_; rintro e w' ⟨rfl, rfl⟩) | (go_at_call 10; refine (HA.out _ HB1.out).mono ?_; rintro e w2 ⟨rfl, hb⟩; have HB2 := Lib.hid (HB1.out.trans (hb.mono HB1.out.size)); have HO2 := Lib.hid (row_kept HO1.out hb); clear hb) | (go_at_call 13; refine (HR.out _ HB2.out).mono ?_; rintro e w' ⟨rfl, rfl⟩) | (at_builtin; refine wpList_append_own _ rfl _ _ 27 rfl _ 5 i0 (.int .u8 0) 1 1 Tryd.underlying27 hi hz0 hz1 hz2 rfl (by decide) _ _ _ rfl (World.ownsRow_nil _ _ _ _) ad zs.length cap (u8s zs) rfl (by simp [u8s]) (bytes_cells (HBY.out _ HB2.out)) (u8s_one zs) ?c3 ?c4 (Nat.le_refl _) ?_))
  case c3 => have := HM.out; omega
  case c4 => omega
  intro v' w3 hown hgrow hnil
  obtain ⟨g2, c2, rfl, hg2⟩ := own_pos hown (by omega)
  have HO3 := Lib.hid hown
  have HG2 := Lib.hid hg2
  have HB3 : Hid (Below w2.heap.size w2 w3) := Lib.hid ((Below.refl _ _).grown hgrow (Nat.le_refl _) (by intro k hk; simp [Value.ownBlock] at hk))
  clear hown hgrow hnil hg2
  have HBy : Hid (∀ w', Below w2.heap.size w2 w' → BytesAt w' (some ⟨g1, 0, none⟩) (lay zs q n 4)) :=
    Lib.hid (fun w' h => bytes_below (row_bytes HO2.out (lay_length _ _ _ _) (lay_bytes q n HZ.out _) HM.out) h)
  go_wp2
  obtain ⟨B, hB⟩ : ∃ B, B = w2.heap.size := ⟨_, rfl⟩
  rw [← hB] at HO3 HG2 HB3 HBy
  have HBs := Lib.hid hB; clear hB
  go_loopw [14] (fun i wr => ∃ k : Nat, (k : Int) ≤ 4 ∧ i = .int .i64 k ∧ Hid (wr.ownsRow B 5 1 (.slice (some ⟨g2, 0, none⟩) zs.length c2) zs.length (u8s (lay zs q n k))) ∧ Hid (Below B w2 wr)) (fun i _ => (4 - (intOf i)).toNat)
  case atStart => exact ⟨0, by omega, rfl, HO3, HB3⟩
  case round =>
    obtain ⟨k, hk, rfl, HOr, HBr⟩ := hrel
    by_cases hlt : (k : Int) < 4
    · have HF : Hid (Calls Tryd.prog 14 #[.int .u64 (n : Int), .int .i64 (4 : Int)] wr (RefPut n 4 wr)) := Lib.hid (refput_cells n 4 wr (by omega))
      have HQ : Hid (q + k < (u8s (lay zs q n k)).length) := Lib.hid (by simp [u8s, lay_length]; omega)
      have HSZ : Hid (B ≤ wr.heap.size) := Lib.hid (by have := HBr.out.size; have := HBs.out; omega)
      clear hn'
      go_wp2_with (go_at_call 14; refine HF.out.mono ?_; rintro e w4 ⟨g3, c3, rfl, hc3, hb4⟩; have hcell3 := hc3 k (by omega); have hrow := row_kept HOr.out hb4; have hold := hrow.cellAt (q + k) (by omega); rw [List.getElem?_eq_getElem HQ.out] at hold; have hfz := hrow.frozenAt (q + k); have HO4 := Lib.hid hrow; have HB4 := Lib.hid (HBr.out.trans (hb4.mono HSZ.out)); clear hc3 hb4 hrow)
      go_roundw
      case rel => exact ⟨k + 1, by omega, by go_num, Lib.hid (lay_step HO4.out rfl), Lib.hid (HB4.out.setCell HG2.out _)⟩
      case measure => simp [intOf]; omega
    · obtain rfl : k = 4 := by omega
      have hL := row_bytes HOr.out (lay_length _ _ _ _) (lay_bytes q n HZ.out _) HM.out
      have hP := HBy.out _ HBr.out
      have k1 := conv_bytes hL (by intro h; cases h) c2
      have k2 := conv_bytes hP (by intro h; cases h) zs.length
      rw [lay_length] at k1 k2
      obtain ⟨t, ht⟩ : ∃ t, t = str (lay zs q n 4) := ⟨_, rfl⟩
      rw [← ht] at k1 k2
      clear ht hL hP
      have HE : Hid (Below w.heap.size w wr) := Lib.hid (HB2.out.trans (HBr.out.mono (by have := HB2.out.size; have := HBs.out; omega)))
      go_wp2
      go_ret
      exact ⟨rfl, HE.out⟩
set_option maxHeartbeats 1600000 in
theorem num_good8 (a : Option Addr) (cap : Nat) (zs : List Nat) (q n : Nat) (w : World) (hb : BytesAt w a zs) (hreach : zs.length ≤ 140737488355328) (hT : TabAt w) (h1 : q + 8 ≤ zs.length) (hn : n < 2 ^ (8 * 8)) :
    Calls Tryd.prog 4 #[.slice a zs.length cap, .int .i64 (q : Int), .int .i64 8, .int .u64 (n : Int)] w (True' w) := by
  obtain ⟨ad, rfl⟩ : ∃ ad, a = some ad := by
    obtain ⟨b, off, e, _⟩ := hb.2.2 q (by omega)
    exact ⟨_, e⟩
  obtain ⟨i0, hi, hz0, hz1, hz2⟩ := info_parts info5
  have hm := hb.2.1
  have HZ := Lib.hid hb.1
  have HP := Lib.hid (put_yes ad cap zs q n 8 w hb hreach (by omega) h1 hn)
  have HG : Hid (∀ w', Below w.heap.size w w' → Calls Tryd.prog 12 #[.slice (some ad) zs.length cap, .int .i64 (q : Int), .int .i64 (8 : Int)] w' fun e w2 => e = .returned (.tuple #[.int .u64 (num ((zs.drop q).take (8 : Int).toNat) : Int), .int .i64 0]) ∧ w' = w2) :=
    Lib.hid (fun w' h => get_yes (some ad) cap zs q 8 w' (bytes_below hb h) (by omega) (by omega))
  have HA : Hid (∀ w', Below w.heap.size w w' → Calls Tryd.prog 10 #[] w' fun e w2 => e = .returned (.bool true) ∧ Below w'.heap.size w' w2) :=
    Lib.hid (fun w' h => awake_any w' (tab_below hT h))
  have HR : Hid (∀ w', Below w.heap.size w w' → Calls Tryd.prog 13 #[.slice (some ad) zs.length cap, .int .i64 (q : Int), .int .i64 (8 : Int)] w' fun e w2 => e = .returned (.int .u64 (num ((zs.drop q).take (8 : Int).toNat) : Int)) ∧ w' = w2) :=
    Lib.hid (fun w' h => refget_any (some ad) cap zs q 8 w' (bytes_below hb h) (by omega) h1)
  have HBY : Hid (∀ w', Below w.heap.size w w' → BytesAt w' (some ad) zs) := Lib.hid (fun w' h => bytes_below hb h)
  clear hT hb
  have HM := Lib.hid hm
  unfold maxLen at hm
  obtain ⟨x, hx⟩ : ∃ x, x = num ((zs.drop q).take (8 : Int).toNat) := ⟨_, rfl⟩
  rw [← hx] at HG HR
  clear hx
  have hn' : n < 18446744073709551616 := hn
  clear hn
  go_enter Tryd.func4, Tryd.ntmps4
  go_wp2_with (first | (go_at_call 9; refine HP.out.mono ?_; rintro e w1 ⟨g1, c1, rfl, ho1, hb1⟩; have HO1 := Lib.hid ho1; have HB1 := Lib.hid hb1; clear ho1 hb1) | (go_at_call 12; refine (HG.out _ HB1.out).mono ?_; rintro e w' ⟨rfl, rfl⟩) | (go_at_call 10; refine (HA.out _ HB1.out).mono ?_; rintro e w2 ⟨rfl, hb⟩; have HB2 := Lib.hid (HB1.out.trans (hb.mono HB1.out.size)); have HO2 := Lib.hid (row_kept HO1.out hb); clear hb) | (go_at_call 13; refine (HR.out _ HB2.out).mono ?_; rintro e w' ⟨rfl, rfl⟩) | (at_builtin; refine wpList_append_own _ rfl _ _ 27 rfl _ 5 i0 (.int .u8 0) 1 1 Tryd.underlying27 hi hz0 hz1 hz2 rfl (by decide) _ _ _ rfl (World.ownsRow_nil _ _ _ _) ad zs.length cap (u8s zs) rfl (by simp [u8s]) (bytes_cells (HBY.out _ HB2.out)) (u8s_one zs) ?c3 ?c4 (Nat.le_refl _) ?_))
  case c3 => have := HM.out; omega
  case c4 => omega
  intro v' w3 hown hgrow hnil
  obtain ⟨g2, c2, rfl, hg2⟩ := own_pos hown (by omega)
  have HO3 := Lib.hid hown
  have HG2 := Lib.hid hg2
  have HB3 : Hid (Below w2.heap.size w2 w3) := Lib.hid ((Below.refl _ _).grown hgrow (Nat.le_refl _) (by intro k hk; simp [Value.ownBlock] at hk))
  clear hown hgrow hnil hg2
  have HBy : Hid (∀ w', Below w2.heap.size w2 w' → BytesAt w' (some ⟨g1, 0, none⟩) (lay zs q n 8)) :=
    Lib.hid (fun w' h => bytes_below (row_bytes HO2.out (lay_length _ _ _ _) (lay_bytes q n HZ.out _) HM.out) h)
  go_wp2
  obtain ⟨B, hB⟩ : ∃ B, B = w2.heap.size := ⟨_, rfl⟩
  rw [← hB] at HO3 HG2 HB3 HBy
  have HBs := Lib.hid hB; clear hB
  go_loopw [14] (fun i wr => ∃ k : Nat, (k : Int) ≤ 8 ∧ i = .int .i64 k ∧ Hid (wr.ownsRow B 5 1 (.slice (some ⟨g2, 0, none⟩) zs.length c2) zs.length (u8s (lay zs q n k))) ∧ Hid (Below B w2 wr)) (fun i _ => (8 - (intOf i)).toNat)
  case atStart => exact ⟨0, by omega, rfl, HO3, HB3⟩
  case round =>
    obtain ⟨k, hk, rfl, HOr, HBr⟩ := hrel
    by_cases hlt : (k : Int) < 8
    · have HF : Hid (Calls Tryd.prog 14 #[.int .u64 (n : Int), .int .i64 (8 : Int)] wr (RefPut n 8 wr)) := Lib.hid (refput_cells n 8 wr (by omega))
      have HQ : Hid (q + k < (u8s (lay zs q n k)).length) := Lib.hid (by simp [u8s, lay_length]; omega)
      have HSZ : Hid (B ≤ wr.heap.size) := Lib.hid (by have := HBr.out.size; have := HBs.out; omega)
      clear hn'
      go_wp2_with (go_at_call 14; refine HF.out.mono ?_; rintro e w4 ⟨g3, c3, rfl, hc3, hb4⟩; have hcell3 := hc3 k (by omega); have hrow := row_kept HOr.out hb4; have hold := hrow.cellAt (q + k) (by omega); rw [List.getElem?_eq_getElem HQ.out] at hold; have hfz := hrow.frozenAt (q + k); have HO4 := Lib.hid hrow; have HB4 := Lib.hid (HBr.out.trans (hb4.mono HSZ.out)); clear hc3 hb4 hrow)
      go_roundw
      case rel => exact ⟨k + 1, by omega, by go_num, Lib.hid (lay_step HO4.out rfl), Lib.hid (HB4.out.setCell HG2.out _)⟩
      case measure => simp [intOf]; omega
    · obtain rfl : k = 8 := by omega
      have hL := row_bytes HOr.out (lay_length _ _ _ _) (lay_bytes q n HZ.out _) HM.out
      have hP := HBy.out _ HBr.out
      have k1 := conv_bytes hL (by intro h; cases h) c2
      have k2 := conv_bytes hP (by intro h; cases h) zs.length
      rw [lay_length] at k1 k2
      obtain ⟨t, ht⟩ : ∃ t, t = str (lay zs q n 8) := ⟨_, rfl⟩
      rw [← ht] at k1 k2
      clear ht hL hP
      have HE : Hid (Below w.heap.size w wr) := Lib.hid (HB2.out.trans (HBr.out.mono (by have := HB2.out.size; have := HBs.out; omega)))
      go_wp2
      go_ret
      exact ⟨rfl, HE.out⟩
end Go.Proofs.YtflepcoiidaekaaDoor

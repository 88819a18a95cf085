/- What the law of sealed pages walks over. -/
import Derived.Test.YtmojfhleelhghaaDoorPagMathB
import Derived.Test.YtmojfhleelhghaaDoorPagAwake
import Derived.Laws.Bits64
namespace Go.Proofs.YtmojfhleelhghaaDoor
open Go.ChangeShapes Go.WideShapes Go.ChangeAt Go.RowKit

theorem i64_and4095 (n : Int) : bits .and .i64 n 4095 = (((n % 4096).toNat : Nat) : Int) := by
  have h127 : (BitVec.ofInt 64 4095).toNat = 2 ^ 12 - 1 := by decide
  have key : (BitVec.ofInt 64 n &&& BitVec.ofInt 64 4095).toNat = (n % ((2 ^ 64 : Nat) : Int)).toNat % 2 ^ 12 := by
    rw [BitVec.toNat_and, BitVec.toNat_ofInt, h127, Nat.and_two_pow_sub_one_eq_mod]
  show IntKind.i64.wrap ((BitVec.ofInt 64 n &&& BitVec.ofInt 64 4095).toNat : Nat) = _
  rw [key, IntWalk.i64_in _ (by omega)]
  omega
theorem turn_val {d t : Nat} (hd : d < 256) (ht : t < 8) : bits .xor .u8 (d : Int) ((2 : Int) ^ t % 256) = ((d ^^^ 2 ^ t : Nat) : Int) := by
  have h2 : 2 ^ t < 256 := by
    have : 2 ^ t ≤ 2 ^ 7 := Nat.pow_le_pow_right (by omega) (by omega)
    omega
  have e : (2 : Int) ^ t % 256 = ((2 ^ t : Nat) : Int) := by
    rw [show (2 : Int) ^ t = ((2 ^ t : Nat) : Int) from (Int.natCast_pow 2 t).symm]
    obtain ⟨z, hz⟩ : ∃ z, z = 2 ^ t := ⟨_, rfl⟩
    rw [← hz] at h2 ⊢
    omega
  rw [e]
  exact u8_xor_nat d (2 ^ t) hd h2
/-- What the laws' walks end in. -/
def True' (w : World) (e : Ending) (w' : World) : Prop := e = .returned (.bool true) ∧ Below w.heap.size w w'
attribute [local irreducible] sealed
set_option maxHeartbeats 1000000 in
theorem seals_bad (a : Option Addr) (cap : Nat) (zs : List Nat) (x : Int) (bit : Int) (w : World) (hb : BytesAt w a zs) (hg : ¬ Good zs) :
    Calls Tryd.prog 5 #[.slice a zs.length cap, .int .u64 x, .int .i64 bit] w (True' w) := by
  have HA := Lib.hid (awake_any w)
  have HS : Hid (∀ V, Below w.heap.size w V → Calls Tryd.prog 12 #[.slice a zs.length cap, .int .u64 x] V fun e w' => e = .returned (.tuple #[.slice none 0 0, .int .i64 4]) ∧ Below V.heap.size V w') := Lib.hid (fun V hV => seal_bad x (bytes_below hb hV) hg)
  have HG : Hid (∀ V, Below w.heap.size w V → Calls Tryd.prog 20 #[.slice a zs.length cap] V fun e w' => e = .returned (.bool false) ∧ Below V.heap.size V w') := Lib.hid (fun V hV => good_no (bytes_below hb hV) hg)
  clear hb hg
  go_enter Tryd.func5, Tryd.ntmps5
  go_wp2_with (first | (go_at_call 13; refine HA.out.mono ?_; rintro e w0 ⟨rfl, hb0⟩; have HB0 := Lib.hid hb0; clear hb0) | (go_at_call 12; refine (HS.out _ HB0.out).mono ?_; rintro e w1 ⟨rfl, hb1⟩; have HB1 := Lib.hid (HB0.out.trans (hb1.mono HB0.out.size)); clear hb1) | (go_at_call 20; refine (HG.out _ HB1.out).mono ?_; rintro e w2 ⟨rfl, hb2⟩; have HB2 := Lib.hid (HB1.out.trans (hb2.mono HB1.out.size)); clear hb2))
  go_ret
  exact ⟨rfl, HB2.out⟩
set_option maxHeartbeats 2000000 in
theorem seals_good {b off cap : Nat} {zs : List Nat} (x : Nat) (hx : x < 18446744073709551616) (bit : Int) {w : World} (hb : BytesAt w (some ⟨b, off, none⟩) zs) (hg : Good zs) (hT : TabAt w) :
    Calls Tryd.prog 5 #[.slice (some ⟨b, off, none⟩) 512 cap, .int .u64 (x : Int), .int .i64 bit] w (True' w) := by
  have hl : zs.length = 512 := hg.1
  have HA := Lib.hid (awake_any w)
  have HS : Hid (∀ V, Below w.heap.size w V → Calls Tryd.prog 12 #[.slice (some ⟨b, off, none⟩) 512 cap, .int .u64 (x : Int)] V (PageOut V (sealed zs x))) := Lib.hid (fun V hV => seal_good x hx (bytes_below hb hV) hg (tab_below hT hV))
  have hqg := sealed_good hb.1 hg x
  have hqz := sealed_bytes hb.1 (show 26 ≤ zs.length by omega) x
  have hqs := sealed_sum hb.1 (show 26 ≤ zs.length by omega) x
  have hql := sealed_lsn hb.1 (show 26 ≤ zs.length by omega) x hx
  have hqk := sealed_kind hb.1 (show 26 ≤ zs.length by omega) x
  obtain ⟨q, hq⟩ : ∃ q, q = sealed zs x := ⟨_, rfl⟩
  rw [← hq] at HS hqg hqz hqs hql hqk
  have hq5 : q.length = 512 := hqg.1
  have HH : Hid (∀ V g, Cells V g 5 (u8c q) → Calls Tryd.prog 26 #[.slice (some ⟨g, 0, none⟩) 512 512] V fun e w' => e = .returned (.tuple #[.int .i64 ((hdOf q).kind : Int), .int .u64 (x : Int), .int .i64 ((hdOf q).link : Int), .int .i64 ((hdOf q).extra : Int), .int .i64 0]) ∧ Below V.heap.size V w') := by
    refine Lib.hid (fun V g hc => ?_)
    have := head_good (cap := 512) (cells_bytes hc hqz (by rw [hq5]; unfold maxLen; decide)) hqg
    rw [hq5, show (hdOf q).lsn = x from hql] at this
    exact this
  have HC : Hid (∀ V g, Cells V g 5 (u8c q) → Below w.heap.size w V → Calls Tryd.prog 15 #[.slice (some ⟨g, 0, none⟩) 512 512] V fun e w' => e = .returned (.int .i64 0) ∧ Below V.heap.size V w') := by
    refine Lib.hid (fun V g hc hV => ?_)
    refine (check_any (cap := 512) (cells_bytes hc hqz (by rw [hq5]; unfold maxLen; decide)) hq5 (Nat.le_refl _) (tab_below hT hV)).mono ?_
    rintro e w' ⟨c, rfl, hck, hbw⟩
    refine ⟨?_, hbw⟩
    rcases hck with ⟨_, rfl⟩ | ⟨_, h, _⟩ | ⟨_, _, h, _⟩ | ⟨_, _, _, rfl⟩
    · rfl
    · exact absurd hqg h
    · exact absurd hqs h
    · rfl
  obtain ⟨K, hK⟩ : ∃ K : Nat, K = (bit % 4096).toNat := ⟨_, rfl⟩
  have hK2 : K < 4096 := by omega
  have hand : bits .and .i64 bit 4095 = (K : Int) := by rw [hK]; exact i64_and4095 bit
  obtain ⟨d, hd⟩ : ∃ d : Nat, d = q.getD (K / 8) 0 := ⟨_, rfl⟩
  have hdq : q[K / 8]'(by omega) = d := by rw [hd, List.getD_eq_getElem?_getD, List.getElem?_eq_getElem (by omega)]; rfl
  have hd2 : d < 256 := by rw [← hdq]; exact hqz _ (List.getElem_mem _)
  have HF : Hid (∀ V g, Cells V g 5 (u8c (q.set (K / 8) (d ^^^ 2 ^ (K % 8)))) → Below w.heap.size w V → Calls Tryd.prog 15 #[.slice (some ⟨g, 0, none⟩) 512 512] V fun e w' => ∃ c, e = .returned (.int .i64 c) ∧ c ≠ 0 ∧ Below V.heap.size V w') := by
    refine Lib.hid (fun V g hc hV => ?_)
    have hz2 : ∀ c ∈ q.set (K / 8) (d ^^^ 2 ^ (K % 8)), c < 256 := set_bytes hqz _ _ (Nat.xor_lt_two_pow (n := 8) hd2 (Nat.pow_lt_pow_right (by omega) (Nat.mod_lt _ (by omega))))
    refine (check_any (cap := 512) (cells_bytes hc hz2 (by rw [List.length_set, hq5]; unfold maxLen; decide)) (by rw [List.length_set, hq5]) (Nat.le_refl _) (tab_below hT hV)).mono ?_
    rintro e w' ⟨c, rfl, hck, hbw⟩
    refine ⟨c, rfl, ?_, hbw⟩
    rw [hd] at hck
    exact flipped hqz hqg hqs (K / 8) (K % 8) (by omega) (Nat.mod_lt _ (by omega)) c hck
  have HQ : Hid (q.length = 512 ∧ q[K / 8]? = some d) := Lib.hid ⟨hq5, by rw [← hdq]; exact List.getElem?_eq_getElem _⟩
  obtain ⟨b', off', e', h12⟩ := hb.2.2 12 (by omega)
  cases e'
  obtain ⟨k, hk⟩ : ∃ k, k = (hdOf q).kind := ⟨_, rfl⟩
  rw [← hk] at HH
  have h12b : w.cell? ⟨b, off + 12, none⟩ = some (.int .u8 (k : Int)) := by
    rw [h12, hk]
    show _ = some (Value.int .u8 ((q.getD 12 0 : Nat) : Int))
    rw [hqk, List.getD_eq_getElem?_getD, List.getElem?_eq_getElem (by omega)]
    rfl
  have H12 : Hid (∀ V, Below w.heap.size w V → V.cell? ⟨b, off + 12, none⟩ = some (.int .u8 (k : Int))) := Lib.hid (fun V hV => (hV.cell (World.block_lt_of_cell? w _ h12b)).trans h12b)
  have hk2 : k < 256 := by
    rw [hk]
    show q.getD 12 0 < 256
    rw [List.getD_eq_getElem?_getD, List.getElem?_eq_getElem (by omega)]; exact hqz _ (List.getElem_mem _)
  clear hb hg hT hl hqg hqz hqs hql hqk hq hq5 hK hdq hd h12 h12b hk
  go_enter Tryd.func5, Tryd.ntmps5
  go_wp2_with (first | (go_at_call 13; refine HA.out.mono ?_; rintro e w0 ⟨rfl, hb0⟩; have HB0 := Lib.hid hb0; clear hb0) | (go_at_call 12; refine (HS.out _ HB0.out).mono ?_; rintro e w1 ⟨g, rfl, hc1, hs1, hb1⟩; have HC1 := Lib.hid hc1; have HS1 := Lib.hid (Nat.le_trans HB0.out.size hs1); have HG1 := Lib.hid (Array.getElem?_eq_some_iff.1 hc1).1; have HB1 := Lib.hid (HB0.out.trans (hb1.mono HB0.out.size)); clear hc1 hs1 hb1) | (go_at_call 26; refine (HH.out _ _ HC1.out).mono ?_; rintro e w2 ⟨rfl, hb2⟩; have HC2 := Lib.hid (show Cells w2 g 5 (u8c q) by (unfold Cells; rw [hb2.block g HG1.out]; exact HC1.out)); have HB2 := Lib.hid (HB1.out.trans (hb2.mono HB1.out.size)); have HG2 := Lib.hid (Nat.lt_of_lt_of_le HG1.out hb2.size); clear hb2))
  refine (HC.out _ _ HC2.out HB2.out).mono ?_
  rintro e w3 ⟨rfl, hb3⟩
  have HC3 := Lib.hid (show Cells w3 g 5 (u8c q) by (unfold Cells; rw [hb3.block g HG2.out]; exact HC2.out))
  have HB3 : Hid (Below w.heap.size w w3) := Lib.hid (HB2.out.trans (hb3.mono HB2.out.size))
  clear hb3
  have c12 := H12.out _ HB3.out
  have hold : w3.cell? ⟨g, K / 8, none⟩ = some (.int .u8 (d : Int)) := by
    rw [cell_of_row w3 g (K / 8) _ _ _ HC3.out]
    have := HQ.out.2
    simp [u8c, this]
  have hfz := frozen_of_row w3 g (K / 8) _ _ HC3.out
  have HV := Lib.hid (turn_val hd2 (Nat.mod_lt K (by omega : 0 < 8)))
  have HC4 : Hid (∀ v : Int, v = ((d ^^^ 2 ^ (K % 8) : Nat) : Int) → Calls Tryd.prog 15 #[.slice (some ⟨g, 0, none⟩) 512 512] (w3.setCell ⟨g, K / 8, none⟩ (.int .u8 v)) fun e w' => ∃ c, e = .returned (.int .i64 c) ∧ c ≠ 0 ∧ Below (w3.setCell ⟨g, K / 8, none⟩ (.int .u8 v)).heap.size (w3.setCell ⟨g, K / 8, none⟩ (.int .u8 v)) w') := by
    refine Lib.hid ?_
    rintro v rfl
    refine HF.out _ _ ?_ (HB3.out.setCell HS1.out _)
    rw [u8c_set]
    exact cells_setCell HC3.out
  have HB4 : Hid (∀ v, Below w.heap.size w (w3.setCell ⟨g, K / 8, none⟩ v)) := Lib.hid (fun v => HB3.out.setCell HS1.out _)
  have hK8 : K / 8 < 512 := by omega
  go_wp2_with fail
  refine (HC4.out _ HV.out).mono ?_
  rintro e w5 ⟨c, rfl, hc0, hb5⟩
  have HB5 : Hid (Below w.heap.size w w5) := Lib.hid ((HB4.out _).trans (hb5.mono (HB4.out _).size))
  clear hb5
  have hcne : (c != 0) = true := by rw [bne_iff_ne]; exact hc0
  go_wp2
  go_ret
  exact ⟨rfl, HB5.out⟩
end Go.Proofs.YtmojfhleelhghaaDoor

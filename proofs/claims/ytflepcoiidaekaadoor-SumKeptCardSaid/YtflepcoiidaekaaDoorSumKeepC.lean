/- SumKept where the number is laid: the walk. -/
import Derived.Test.YtflepcoiidaekaaDoorSumKeepB
import Derived.ArgAppend
namespace Go.Proofs.YtflepcoiidaekaaDoor
open Go.ChangeShapes Go.WideShapes Go.ChangeAt Go.RowKit

/-- What Get of Put tells. -/
theorem get_laid {w : World} {g : Nat} {l : List Nat} {q n S : Nat} (hb : BytesAt w (some ⟨g, 0, none⟩) (lay l q n S)) (hs : S = 1 ∨ S = 2 ∨ S = 4 ∨ S = 8) (h1 : q + S ≤ l.length) (hn : n < 2 ^ (8 * S)) :
    Calls Tryd.prog 12 #[.slice (some ⟨g, 0, none⟩) l.length l.length, .int .i64 (q : Int), .int .i64 (S : Int)] w fun e w' => e = .returned (.tuple #[.int .u64 (n : Int), .int .i64 0]) ∧ w = w' := by
  have := get_yes (some ⟨g, 0, none⟩) l.length (lay l q n S) q (S : Int) w hb (by omega) (by rw [lay_length]; omega)
  rw [lay_length, Int.toNat_natCast, num_lay l q n S h1 hn] at this
  exact this
theorem u8_step {w : World} {B g c n : Nat} {ys : List Nat} {k : Nat} {x : Int} (h : w.ownsRow B 5 1 (.slice (some ⟨g, 0, none⟩) n c) n (u8s ys)) (hx : ∃ d : Nat, x = (d : Int)) :
    ∃ ys' : List Nat, (w.setCell ⟨g, k, none⟩ (.int .u8 x)).ownsRow B 5 1 (.slice (some ⟨g, 0, none⟩) n c) n (u8s ys') := by
  obtain ⟨d, rfl⟩ := hx
  exact ⟨ys.set k d, by rw [u8s_set]; exact (h.stored k _).1⟩
theorem xor_nat (x : Int) : ∃ d : Nat, bits .xor .u8 x 255 = (d : Int) := by
  refine ⟨(BitVec.ofInt 8 x ^^^ BitVec.ofInt 8 255).toNat % 256, ?_⟩
  show IntKind.u8.wrap ((BitVec.ofInt 8 x ^^^ BitVec.ofInt 8 255).toNat : Int) = _
  rw [IntKind.wrap_u8']
  omega

set_option maxHeartbeats 1600000 in
theorem keep_ok (ad : Addr) (cap : Nat) (l : List Nat) (q n S : Nat) (w : World) (hb : BytesAt w (some ad) l) (hreach : l.length ≤ 140737488351232) (hT : TabAt w) (hs : S = 1 ∨ S = 2 ∨ S = 4 ∨ S = 8) (h1 : q + S ≤ l.length) (hn : n < 2 ^ (8 * S)) :
    Calls Tryd.prog 6 #[.slice (some ad) l.length cap, .int .i64 (q : Int), .int .i64 (S : Int), .int .u64 (n : Int)] w (True' w) := by
  obtain ⟨i0, hi, hz0, hz1, hz2⟩ := info_parts info5
  have hm : l.length ≤ maxLen := hb.2.1
  have HZ := Lib.hid hb.1
  have HA : Hid (Calls Tryd.prog 10 #[] w fun e w2 => e = .returned (.bool true) ∧ Below w.heap.size w w2) := Lib.hid (awake_any w hT)
  have HBY : Hid (∀ w', Below w.heap.size w w' → BytesAt w' (some ad) l) := Lib.hid (fun w' h => bytes_below hb h)
  clear hT hb
  have HM := Lib.hid hm
  unfold maxLen at hm
  have HU1 := Lib.hid (u8s_one l)
  have HUL : Hid ((u8s l).length = l.length * 1) := Lib.hid (by simp [u8s])
  have HM1 : Hid (0 + l.length ≤ maxLen) := Lib.hid (by unfold maxLen; omega)
  have HM2 : Hid ((0 + l.length) * 1 ≤ 140737488355328) := Lib.hid (by omega)
  have HM3 : Hid (l.length + 1 ≤ maxLen) := Lib.hid (by unfold maxLen; omega)
  have HM4 : Hid ((l.length + 1) * 1 ≤ 140737488355328) := Lib.hid (by omega)
  have HP : Hid (∀ (g c : Nat) (w' : World), BytesAt w' (some ⟨g, 0, none⟩) l → Calls Tryd.prog 9 #[.slice (some ⟨g, 0, none⟩) l.length c, .int .i64 (q : Int), .int .i64 (S : Int), .int .u64 (n : Int)] w' (Put1 w' l (lay l q n S))) :=
    Lib.hid (fun g c w' h => put_yes ⟨g, 0, none⟩ c l q n S w' h (by omega) hs h1 hn)
  have HG : Hid (∀ (g : Nat) (w' : World), BytesAt w' (some ⟨g, 0, none⟩) (lay l q n S) → Calls Tryd.prog 12 #[.slice (some ⟨g, 0, none⟩) l.length l.length, .int .i64 (q : Int), .int .i64 (S : Int)] w' fun e w2 => e = .returned (.tuple #[.int .u64 (n : Int), .int .i64 0]) ∧ w' = w2) :=
    Lib.hid (fun g w' h => get_laid h hs h1 hn)
  have HL := Lib.hid (lay_bytes q n HZ.out S)
  have HLL := Lib.hid (lay_length l q n S)
  clear hs h1 hn
  go_enter Tryd.func6, Tryd.ntmps6
  go_wp2_with (first | (go_at_call 10; refine HA.out.mono ?_; rintro e w0 ⟨rfl, hb0⟩; have HB0 := Lib.hid hb0; clear hb0) | (at_builtin; refine wpList_append_own _ rfl (.tmp 17) (.tmp 18) 27 rfl w0.heap.size 5 i0 (.int .u8 0) 1 1 Tryd.underlying27 hi hz0 hz1 hz2 rfl (by decide) _ _ _ rfl (World.ownsRow_made w0 #[] 0 (Nat.le_refl _) (Nat.zero_le _) rfl) ad l.length cap (u8s l) rfl HUL.out (fun j u h => cell_alloc (bytes_cells (HBY.out _ HB0.out) j u h) _) HU1.out HM1.out HM2.out (Nat.le_of_lt (by simp)) ?_; intro v1 w1 hown1 hgrow1 hnil1; obtain ⟨g1, c1, rfl, hg1⟩ := own_form hown1 (fun h => by have := (hnil1.1 h).1; cases this); simp only [Nat.zero_add, List.nil_append] at hown1; have HO1 := Lib.hid hown1; have HB1 := Lib.hid (((Below.refl w0.heap.size w0).alloc (Nat.le_refl _) (.cells #[] 5)).grown hgrow1 (Nat.le_of_lt (by simp)) (fun k hk => by cases hk; exact Nat.le_refl _)); clear hown1 hgrow1 hnil1 hg1) | (at_builtin; refine wpList_append_own _ rfl (.tmp 19) (.tmp 20) 27 rfl w0.heap.size 5 i0 (.int .u8 0) 1 1 Tryd.underlying27 hi hz0 hz1 hz2 rfl (by decide) _ _ _ rfl (HO1.out.alloc _) _ 1 1 [.int .u8 201] rfl rfl (cell_one_new _ _ _) (by intro u hu; simp at hu; subst hu; rfl) HM3.out HM4.out (Nat.le_trans HB1.out.size (Nat.le_of_lt (by simp))) ?_; intro v2 w2 hown2 hgrow2 _; obtain ⟨g2, c2, rfl, hg2⟩ := own_pos hown2 (Nat.succ_pos _); have HO2 := Lib.hid (own_snoc (c := 201) rfl hown2); have HB2 := Lib.hid ((HB1.out.alloc (HB1.out.size) _).grown hgrow2 (Nat.le_trans HB1.out.size (Nat.le_of_lt (by simp))) (fun k hk => (HO1.out.lt k hk).1)); have hc2 := (row_base hown2).2; clear hown2 hgrow2 hg2) | (go_at_call 9; refine (HP.out _ _ _ (row_bytes' HO2.out HZ.out HM.out)).mono ?_; rintro e w3 ⟨g3, c3, rfl, ho3, hb3⟩; have HO3 := Lib.hid ho3; have HB3 := Lib.hid hb3; clear ho3 hb3) | (go_at_call 12; refine (HG.out _ _ (row_bytes HO3.out HLL.out HL.out HM.out)).mono ?_; rintro e w' ⟨rfl, rfl⟩))
  obtain ⟨B, hB⟩ : ∃ B, B = w2.heap.size := ⟨_, rfl⟩
  rw [← hB] at HO3 HB3
  have HBs := Lib.hid hB; clear hB
  have HC2 := Lib.hid hc2; clear hc2
  have HG3 := Lib.hid (row_base HO3.out)
  go_loopw [14] (fun i wr => ∃ k : Nat, k ≤ l.length ∧ i = .int .i64 k ∧ Hid (∃ ys, wr.ownsRow B 5 1 (.slice (some ⟨g3, 0, none⟩) l.length c3) l.length (u8s ys)) ∧ Hid (Below B w2 wr)) (fun i _ => (l.length - (intOf i)).toNat)
  case atStart => exact ⟨0, by omega, rfl, Lib.hid ⟨_, HO3.out⟩, HB3⟩
  case round =>
    obtain ⟨k, hk, rfl, HOr, HBr⟩ := hrel
    obtain ⟨ys, hown⟩ := HOr.out
    have hyl : ys.length = l.length := by have := hown.1; rw [u8s_length] at this; omega
    by_cases hlt : k < l.length
    · have hold := hown.cellAt k (by omega)
      rw [List.getElem?_eq_getElem (by rw [u8s_length]; omega)] at hold
      simp only [u8s, List.getElem_map] at hold
      obtain ⟨d, hd⟩ : ∃ d : Nat, d = ys[k]'(by omega) := ⟨_, rfl⟩
      rw [← hd] at hold
      have hfz := hown.frozenAt k
      have HOW := Lib.hid hown
      clear hown hyl hd HOr
      go_wp2
      go_roundw
      case rel => exact ⟨k + 1, by omega, by go_num, Lib.hid (u8_step HOW.out (xor_nat _)), Lib.hid (HBr.out.setCell HG3.out.1 _)⟩
      case measure => simp [intOf]; omega
    · have HOW := Lib.hid hown
      have HOL : Hid ((u8s ys).length = l.length * 1) := Lib.hid (by rw [u8s_length]; omega)
      have HOC : Hid (∀ b, (some (⟨g3, 0, none⟩ : Addr)) = some b → ∀ j u, (u8s ys)[j]? = some u → (wr.alloc (.cells #[.int .u8 99] 5)).cell? (b.add j) = some u) := by
        refine Lib.hid (fun b hb j u hu => cell_alloc ?_ _)
        cases hb
        exact World.ownsRow.cells HOW.out (g := g3) rfl j u hu
      have hlast := row_last HO2.out
      have hx := row_bytes' HO2.out HZ.out HM.out
      have HLast : Hid (wr.cell? ⟨g2, l.length, none⟩ = some (.int .u8 ((201 : Nat) : Int))) := Lib.hid (by
        have hlt : g2 < w2.heap.size := row_lt HO2.out
        rw [HBr.out.cell (p := ⟨g2, l.length, none⟩) (by have := HBs.out; show g2 < B; omega)]; exact hlast)
      have HBw : Hid (Below w.heap.size w wr) := Lib.hid ((HB0.out.trans (HB2.out.mono HB0.out.size)).trans (HBr.out.mono (by have := HB0.out.size; have := HB2.out.size; have := HBs.out; omega)))
      have HXb : Hid (BytesAt wr (some ⟨g2, 0, none⟩) l) := Lib.hid (bytes_below hx (by have := HBr.out; rwa [HBs.out] at this))
      clear hlast hx hown hyl HOr
      go_wp2_with (at_builtin; refine wpList_append_grows _ rfl (.tmp 66) (.tmp 67) 27 rfl 5 i0 (.int .u8 0) 1 1 Tryd.underlying27 hi hz0 hz1 hz2 rfl (by decide) (some ⟨g3, 0, none⟩) l.length l.length (u8s ys) rfl (fun h => by cases h) HOL.out HOC.out _ 1 1 [.int .u8 99] rfl rfl (cell_one_new _ _ _) (by intro u hu; simp at hu; subst hu; rfl) (Nat.lt_succ_self _) HM3.out HM4.out ?_; intro v4 w4 hown4 hgrow4; obtain ⟨g4, c4, rfl, hg4⟩ := own_pos hown4 (Nat.succ_pos _); have HB4 := Lib.hid (((Below.refl wr.heap.size wr).alloc (Nat.le_refl _) (.cells #[.int .u8 99] 5)).grown hgrow4 (Nat.le_of_lt (by simp)) (fun k hk => by cases hk)); clear hown4 hgrow4 hg4; have k1 := conv_bytes (bytes_below HXb.out HB4.out) (by intro h; cases h) c2; have k2 := conv_bytes (HBY.out _ (HBw.out.trans (HB4.out.mono HBw.out.size))) (by intro h; cases h) cap; have k3 : w4.cell? ⟨g2, l.length, none⟩ = some (.int .u8 201) := (HB4.out.cell (World.block_lt_of_cell? wr _ HLast.out)).trans HLast.out; have k4 := HC2.out)
      go_ret
      exact ⟨rfl, HBw.out.trans (HB4.out.mono HBw.out.size)⟩
end Go.Proofs.YtflepcoiidaekaaDoor

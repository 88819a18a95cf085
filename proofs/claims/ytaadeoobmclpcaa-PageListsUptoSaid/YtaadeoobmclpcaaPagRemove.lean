/- A cell is taken out of a page: a contract. -/
import Derived.Test.YtaadeoobmclpcaaPagBads
import Derived.Lib.SliceRun
namespace Go.Proofs.Ytaadeoobmclpcaa
open Go.ChangeShapes Go.WideShapes Go.ChangeAt Go.RowKit

theorem wpList_clear {P : Program} {w : World} {ops : Array Oper} {rest : List Oper} {o : Oper} {a : Act} {Q : Exit → Act → World → Prop} (hgd : o.guard = none) (x : Operand) (t : TypeId)
    (ho : o.op = .call { callee := .builtin .clear, args := #[x], argTypes := #[t] }) (e : TypeId) (z : Value) (ht : P.underlying t = some (.slice e)) (hv : ∀ w, (zeroValue e).run P w = .ok z w) (hz : z.cells = #[z]) (h1 : z.oneCell' = true)
    (b q n c : Nat) (hx : a.eval x = .slice (some ⟨b, q, none⟩) n c) (hn : 0 < n) (hc : ∀ j, j < n → (w.cell? ⟨b, q + j, none⟩).isSome = true) (hf : ∀ j, j < n → w.frozen? ⟨b, q + j, none⟩ = false)
    (h : wpList P ops Q rest (a.put o.dst (.tuple #[])) (w.setCells b q (List.replicate n z))) : wpList P ops Q (o :: rest) a w := by
  refine wpList_plain hgd fun K hK => ?_
  have hrun := Lib.run_clear_slice (P := P) w t e o.type z ht hv hz h1 b q n c hn hc hf
  unfold Oper.wp
  simp [execOp, ho, resolve, invoke, builtin, hx, hrun, Result.andThen]
  exact hK _ _ h
theorem zero5 (w : World) : (zeroValue 5).run Try.prog w = .ok (.int .u8 0) w := by
  obtain ⟨i0, hi, hz0, hz1, hz2⟩ := info_parts info5
  simp [zeroValue, typeInfo, hi, hz0]
/-- A page without its i-th cell. -/
def removed (zs : List Nat) (i : Nat) : List Nat :=
  wr (lay (splice zs (26 + 4 * i) ((zs.drop (30 + 4 * i)).take (4 * (rd zs 14 2 - 1 - i)))) (22 + 4 * rd zs 14 2) 0 4) { hdOf zs with count := rd zs 14 2 - 1, low := if rd zs 14 2 = 1 then 512 else rd zs 16 2 }
theorem removed_eq (zs : List Nat) (i : Nat) : wr (lay (splice zs (26 + 4 * i) ((zs.drop (30 + 4 * i)).take (4 * (rd zs 14 2 - 1 - i)))) (22 + 4 * rd zs 14 2) 0 4) { hdOf zs with count := rd zs 14 2 - 1, low := if rd zs 14 2 = 1 then 512 else rd zs 16 2 } = removed zs i := rfl
theorem cells_clear {w : World} {g : Nat} {zs : List Nat} (h : Cells w g 5 (u8c zs)) (q : Nat) : Cells (w.setCells g q (List.replicate 4 (.int .u8 0))) g 5 (u8c (lay zs q 0 4)) := by
  simp only [lay, Nat.zero_div, Nat.zero_mod, u8c_set, Nat.add_zero]
  exact cells_setCell (cells_setCell (cells_setCell (cells_setCell h)))
theorem other_clear {w : World} {g b q : Nat} {t : TypeId} {cs : Array Value} (h : Cells w b t cs) (hne : b ≠ g) : Cells (w.setCells g q (List.replicate 4 (.int .u8 0))) b t cs :=
  cells_setOther (cells_setOther (cells_setOther (cells_setOther h hne) hne) hne) hne
theorem below_clear {B : Nat} {w0 w : World} {g q : Nat} (h : Below B w0 w) (hB : B ≤ g) : Below B w0 (w.setCells g q (List.replicate 4 (.int .u8 0))) :=
  (((h.setCell hB _).setCell hB _).setCell hB _).setCell hB _
attribute [local irreducible] removed lay wr splice
set_option maxHeartbeats 1000000 in
theorem remove_good {ad : Addr} {cap : Nat} {zs : List Nat} (i : Nat) {w : World} (hb : BytesAt w (some ad) zs) (hg : Good zs) (hin : i < rd zs 14 2) :
    Calls Try.prog 8 #[.slice (some ad) 512 cap, .int .i64 (i : Int)] w (PageOut w (removed zs i)) := by
  obtain ⟨i0, hi, hz0, hz1, hz2⟩ := info_parts info5
  have hl : zs.length = 512 := hg.1
  have HO : Hid (Calls Try.prog 16 #[.slice (some ad) 512 cap] w (OpenedGood w zs)) := by
    have := open_good (cap := cap) hb hg
    rw [hl] at this
    exact Lib.hid this
  have HONE := Lib.hid (hd_one (hdOf zs))
  have HL := Lib.hid hl
  have HF := Lib.hid (hdOf_fits hb.1 (by omega))
  have HU : Hid ((u8s zs).length = 512 * 1) := Lib.hid (by simp [u8s]; exact HL.out)
  have HBY := Lib.hid hb
  have hbt : i0.bytes * 512 ≤ 281474976710656 := by rw [hz2]; decide
  have HBT := Lib.hid hbt
  have h512 : rd zs 16 2 ≤ 512 := hg.2.2.2.1
  have hend : 26 + 4 * rd zs 14 2 ≤ rd zs 16 2 := hg.2.2.1
  have HEND := Lib.hid (removed_eq zs i)
  obtain ⟨c, hcc⟩ : ∃ c, c = rd zs 14 2 := ⟨_, rfl⟩
  obtain ⟨lo, hlo⟩ : ∃ lo, lo = rd zs 16 2 := ⟨_, rfl⟩
  have HCC := Lib.hid hcc
  have HLO := Lib.hid hlo
  rw [← hcc] at hin hend HEND
  rw [← hlo] at hend h512 HEND
  clear hb hg hbt hl hcc hlo
  go_enter Try.func8, Try.ntmps8
  go_wp2_with (first | (go_at_call 16; refine HO.out.mono ?_; rintro e w' ⟨rfl, hbel⟩; have HB := Lib.hid hbel; clear hbel) | (refine wpList_store_row rfl 44 (.tmp 6) _ rfl w'.heap.size (hdOf zs).cells rfl rfl 44 _ (cells_new w' 44 head0) (size58 _ rfl) rfl HONE.out ?_; have HH1 : Hid (Cells ((w'.alloc (.cells #[.int .u32 0, .int .u32 0, .int .u32 0, .int .u64 0, .int .u8 0, .int .u8 0, .int .i64 0, .int .i64 0] 44)).setRow w'.heap.size (hdOf zs).cells) w'.heap.size 44 (hdOf zs).cells) := Lib.hid (setRow_heap _ _ _ (hdOf zs).cells _ _ (cells_new w' 44 head0)); have HB1 : Hid (Below w.heap.size w ((w'.alloc (.cells #[.int .u32 0, .int .u32 0, .int .u32 0, .int .u64 0, .int .u8 0, .int .u8 0, .int .i64 0, .int .i64 0] 44)).setRow w'.heap.size (hdOf zs).cells)) := Lib.hid (below_head HB.out HB.out.size (hdOf zs).cells); have HSV : Hid (((w'.alloc (.cells #[.int .u32 0, .int .u32 0, .int .u32 0, .int .u64 0, .int .u8 0, .int .u8 0, .int .i64 0, .int .i64 0] 44)).setRow w'.heap.size (hdOf zs).cells).heap.size = w'.heap.size + 1) := Lib.hid (by simp only [size_setRow, World.size_alloc]); generalize (w'.alloc (.cells #[.int .u32 0, .int .u32 0, .int .u32 0, .int .u64 0, .int .u8 0, .int .u8 0, .int .i64 0, .int .i64 0] 44)).setRow w'.heap.size (hdOf zs).cells = V at HH1 HB1 HSV ⊢; have c6 : V.cell? ⟨w'.heap.size, 6, none⟩ = some (.int .i64 (c : Int)) := by (rw [HCC.out]; exact (cell_of_row V w'.heap.size 6 _ _ _ HH1.out).trans rfl)) | (at_make; refine wpList_make_own _ rfl _ _ 24 rfl _ 5 i0 (.int .u8 0) 1 Try.underlying24 hi hz0 hz1 .i64 .i64 512 512 rfl rfl rfl HBT.out (by unfold maxLen; decide) (Nat.le_refl _) ?_; intro w2 ho2 hg2; rw [HSV.out] at ho2 ⊢; have HO2 := Lib.hid ho2; have HH2 := Lib.hid (cells_grown HH1.out hg2 (by simp)); have HB2 := Lib.hid (HB1.out.grown hg2 HB1.out.size (fun k hk => by cases hk)); clear ho2 hg2) | (at_builtin; refine wpList_append_fits _ rfl (.tmp 28) (.tmp 29) 24 rfl _ 5 i0 1 Try.underlying24 hi hz1 _ 0 512 [] rfl HO2.out ad 512 cap (u8s zs) rfl HU.out (bytes_cells (bytes_below HBY.out HB2.out)) (u8s_one _) (by decide) ?_; intro w3 ho3 hg3; simp only [Nat.zero_add, List.nil_append] at ho3; have HC4 := Lib.hid (own_cells ho3); have HH4 := Lib.hid (cells_grown HH2.out hg3 (by simp)); have HB4 := Lib.hid (HB2.out.grown hg3 HB2.out.size (fun k hk => by cases hk; exact Nat.le_succ_of_le HB.out.size)); have c64 : w3.cell? ⟨w'.heap.size, 6, none⟩ = some (.int .i64 (c : Int)) := (by rw [HCC.out]; exact (cell_of_row w3 w'.heap.size 6 _ _ _ HH4.out).trans rfl); have HSE4 := Lib.hid (slotsEnd_any w'.heap.size c (by omega) w3 c64); clear ho3 hg3) | (go_at_call 19; refine HSE4.out.mono ?_; rintro e w4 ⟨rfl, rfl⟩))
  obtain ⟨F, hF⟩ : ∃ F, F = 26 + 4 * i := ⟨_, rfl⟩
  obtain ⟨E, hE⟩ : ∃ E, E = 26 + 4 * c := ⟨_, rfl⟩
  obtain ⟨F4, hF4⟩ : ∃ F4, F4 = 30 + 4 * i := ⟨_, rfl⟩
  obtain ⟨E4, hE4⟩ : ∃ E4, E4 = 22 + 4 * c := ⟨_, rfl⟩
  obtain ⟨L, hL⟩ : ∃ L, L = 4 * (c - 1 - i) := ⟨_, rfl⟩
  obtain ⟨g, hgg⟩ : ∃ g, g = w'.heap.size + 1 := ⟨_, rfl⟩
  have eF : (26 : Int) + 4 * (i : Int) = (F : Int) := by omega
  have eE : (26 : Int) + 4 * (c : Int) = (E : Int) := by omega
  have hwF : IntKind.i64.wrap ((F : Int) + 4) = (F4 : Int) := (IntWalk.i64_in _ (by omega)).trans (by omega)
  have hwE : IntKind.i64.wrap ((E : Int) - 4) = (E4 : Int) := (IntWalk.i64_in _ (by omega)).trans (by omega)
  have k1 : F ≤ E4 := by omega
  have k2 : E4 ≤ 512 := by omega
  have k2' : (E4 : Int) ≤ 512 := by omega
  have k6' : (E : Int) ≤ 512 := by omega
  have k3 : ¬ 512 = F4 := by omega
  have k4 : E4 - F = L := by omega
  have k5 : F4 ≤ E := by omega
  have k6 : E ≤ 512 := by omega
  have k7 : ¬ 512 = F := by omega
  have k8 : E - F4 = L := by omega
  rw [eF, eE]
  rw [← hF4, ← hF, ← hL, ← hE4] at HEND
  obtain ⟨X, hX⟩ : ∃ X, X = (zs.drop F4).take L := ⟨_, rfl⟩
  have HXL : Hid (X.length = L) := Lib.hid (by rw [hX, List.length_take, List.length_drop, HL.out]; omega)
  have HSRC : Hid (∀ j v, (u8s X)[j]? = some v → w4.drew.cell? ((⟨g, F4, none⟩ : Addr).add j) = some v) := Lib.hid (by rw [hX, hgg]; exact cells_src (w := w4.drew) HC4.out F4 L)
  rw [← hX] at HEND
  have HG : Hid (w'.heap.size < g) := Lib.hid (by omega)
  have HGD : Hid (w4.drew.heap[g]? = some (.cells (u8s zs).toArray 5 (0, 0))) := Lib.hid (by rw [hgg]; exact HC4.out)
  have HSL : Hid ((u8s zs).length = 512) := Lib.hid (by simp [u8s]; exact HL.out)
  have HXS : Hid ((u8s X).length = L) := Lib.hid (by simp [u8s]; exact HXL.out)
  have HK : Hid (F + L ≤ 512) := Lib.hid (by omega)
  rw [← hgg]
  have HEE : Hid (E = E4 + 4 ∧ E4 + 4 ≤ 512) := Lib.hid ⟨by omega, by omega⟩
  clear hF hE hF4 hE4 hL hX hgg eF eE
  go_region_law (refine step_copy_splice rfl (.tmp 39) (.tmp 44) 24 24 rfl 5 Try.underlying24 size5 (some ⟨g, F, none⟩) (some ⟨g, F4, none⟩) L (512 - F) L (512 - F4) (by simp [Act.eval, Act.put]) (by simp [Act.eval, Act.put]) g F (u8s zs) 5 HGD.out (u8s X) (by rw [HXS.out]; simp) (fun _ => ⟨rfl, _, rfl, HSRC.out⟩) (by rw [HXS.out, HSL.out]; exact HK.out) (u8s_one X) g w4.drew (Below.refl _ _) (Nat.le_refl _) ?_; intro w5 hg5 hb5)
  have HC5 : Hid (Cells w5 g 5 (u8c (splice zs F X))) := Lib.hid (by unfold Cells; rw [hg5.out, u8s_splice]; rfl)
  have HH5 : Hid (Cells w5 w'.heap.size 44 (hdOf zs).cells) := Lib.hid (by unfold Cells; rw [hb5.block _ HG.out]; exact HH4.out)
  have HB5 : Hid (Below w.heap.size w w5) := Lib.hid (HB4.out.drew.trans (hb5.mono (Nat.le_trans HB.out.size (Nat.le_of_lt HG.out))))
  clear hg5 hb5 c64 HSE4 c6
  have hgs : ∀ j, j < 4 → (w5.cell? ⟨g, E4 + j, none⟩).isSome = true := by
    intro j hj
    have hlen : (splice zs F X).length = 512 := by rw [length_splice _ _ _ (by rw [HL.out, HXL.out]; exact HK.out)]; exact HL.out
    rw [cell_of_row w5 g (E4 + j) _ _ _ HC5.out, u8c_get _ _ (by rw [hlen]; have := HEE.out.2; omega)]
    rfl
  have HGS := Lib.hid hgs
  have HGF : Hid (∀ j, j < 4 → w5.frozen? ⟨g, E4 + j, none⟩ = false) := Lib.hid (fun j _ => frozen_of_row w5 g (E4 + j) _ _ HC5.out)
  have HLS : Hid ((splice zs F X).length = 512) := Lib.hid (by rw [length_splice _ _ _ (by rw [HL.out, HXL.out]; exact HK.out)]; exact HL.out)
  obtain ⟨hEE, h516⟩ := HEE.out
  subst hEE
  have hclr := Lib.run_clear_slice (P := Try.prog) w5 24 5 0 (.int .u8 0) Try.underlying24 zero5 rfl rfl g E4 4 (512 - E4) (by decide) HGS.out HGF.out
  have HC6 := Lib.hid (cells_clear HC5.out E4)
  have HH6 := Lib.hid (other_clear (q := E4) HH5.out (show w'.heap.size ≠ g by have := HG.out; omega))
  have HB6 := Lib.hid (below_clear (q := E4) HB5.out (Nat.le_trans HB.out.size (Nat.le_of_lt HG.out)))
  generalize w5.setCells g E4 (List.replicate 4 (.int .u8 0)) = w6 at hclr HC6 HH6 HB6
  obtain ⟨d, rfl⟩ : ∃ d, c = d + 1 := ⟨c - 1, by omega⟩
  have k9 : ¬ 512 = E4 := by omega
  have hd5 : d < 65536 := by omega
  have c66 : w6.cell? ⟨w'.heap.size, 6, none⟩ = some (.int .i64 ((d + 1 : Nat) : Int)) := by rw [HCC.out]; exact (cell_of_row w6 w'.heap.size 6 _ _ _ HH6.out).trans rfl
  have f66 := frozen_of_row w6 w'.heap.size 6 _ _ HH6.out
  have c67 : w6.cell? ⟨w'.heap.size, 7, none⟩ = some (.int .i64 (lo : Int)) := by rw [HLO.out]; exact (cell_of_row w6 w'.heap.size 7 _ _ _ HH6.out).trans rfl
  have f67 := frozen_of_row w6 w'.heap.size 7 _ _ HH6.out
  have HLO5 : Hid (lo < 65536) := Lib.hid (by omega)
  have hlo5 := HLO5.out
  have HLL : Hid ((lay (splice zs F X) E4 0 4).length = 512) := Lib.hid (by rw [lay_length]; exact HLS.out)
  have HGN : Hid (w.heap.size ≤ g) := Lib.hid (Nat.le_trans HB.out.size (Nat.le_of_lt HG.out))
  clear hgs hwF hwE k1 k2' k3 k4 k5 k6 k6' k7 k8 hin HEE HC5 HH5 HB5 HGS HGF HLS
  by_cases hd0 : d = 0
  · subst hd0
    have HE0 : Hid (wr (lay (splice zs F X) E4 0 4) { hdOf zs with count := 0, low := 512 } = removed zs i) := Lib.hid HEND.out
    clear HEND
    go_wp2_with fail
    have hh : Cells ((w6.setCell ⟨w'.heap.size, 6, none⟩ (.int .i64 0)).setCell ⟨w'.heap.size, 7, none⟩ (.int .i64 512)) w'.heap.size 44 ({ hdOf zs with count := 0, low := 512 } : Hd).cells := cells_setCell (cells_setCell HH6.out)
    have hc : Cells ((w6.setCell ⟨w'.heap.size, 6, none⟩ (.int .i64 0)).setCell ⟨w'.heap.size, 7, none⟩ (.int .i64 512)) g 5 (u8c (lay (splice zs F X) E4 0 4)) := cells_setOther (cells_setOther HC6.out (by have := HG.out; omega)) (by have := HG.out; omega)
    have hbw : Below w.heap.size w ((w6.setCell ⟨w'.heap.size, 6, none⟩ (.int .i64 0)).setCell ⟨w'.heap.size, 7, none⟩ (.int .i64 512)) := (HB6.out.setCell HB.out.size _).setCell HB.out.size _
    have hF6 : ({ hdOf zs with count := 0, low := 512 } : Hd).Fits := ⟨HF.out.1, HF.out.2.1, HF.out.2.2.1, HF.out.2.2.2.1, HF.out.2.2.2.2.1, HF.out.2.2.2.2.2.1, (by show 0 < 65536; omega), (by show 512 < 65536; omega)⟩
    refine (write_any w'.heap.size g 512 512 { hdOf zs with count := 0, low := 512 } _ _ hF6 (by have := HG.out; omega) HLL.out (by omega) hh hc).mono ?_
    rintro e w9 ⟨rfl, hc9, hw9⟩
    rw [HE0.out] at hc9
    have HE : Hid (PageOut w (removed zs i) (.returned (.tuple #[.slice (some ⟨g, 0, none⟩) 512 512, .int .i64 0])) w9) :=
      Lib.hid ⟨g, rfl, hc9, HGN.out, below_wrote hbw hw9 HGN.out hbw.size⟩
    clear hc9 hw9 hh hc hbw hF6
    go_wp2
    go_ret2
    exact HE.out
  · have HE0 : Hid (wr (lay (splice zs F X) E4 0 4) { hdOf zs with count := d, low := lo } = removed zs i) := by
      have h := HEND.out
      rw [if_neg (by omega), Nat.add_sub_cancel] at h
      exact Lib.hid h
    clear HEND
    have hdd : ((d : Int) == 0) = false := by rw [beq_eq_false_iff_ne]; omega
    go_wp2_with fail
    have hh : Cells (w6.setCell ⟨w'.heap.size, 6, none⟩ (.int .i64 (d : Int))) w'.heap.size 44 ({ hdOf zs with count := d, low := lo } : Hd).cells := by
      have := cells_setCell (o := 6) (v := .int .i64 (d : Int)) HH6.out
      have e : (hdOf zs).low = lo := HLO.out.symm
      rw [← e]
      exact this
    have hc : Cells (w6.setCell ⟨w'.heap.size, 6, none⟩ (.int .i64 (d : Int))) g 5 (u8c (lay (splice zs F X) E4 0 4)) := cells_setOther HC6.out (by have := HG.out; omega)
    have hbw : Below w.heap.size w (w6.setCell ⟨w'.heap.size, 6, none⟩ (.int .i64 (d : Int))) := HB6.out.setCell HB.out.size _
    have hF6 : ({ hdOf zs with count := d, low := lo } : Hd).Fits := ⟨HF.out.1, HF.out.2.1, HF.out.2.2.1, HF.out.2.2.2.1, HF.out.2.2.2.2.1, HF.out.2.2.2.2.2.1, (by show d < 65536; omega), (by show lo < 65536; omega)⟩
    refine (write_any w'.heap.size g 512 512 { hdOf zs with count := d, low := lo } _ _ hF6 (by have := HG.out; omega) HLL.out (by omega) hh hc).mono ?_
    rintro e w9 ⟨rfl, hc9, hw9⟩
    rw [HE0.out] at hc9
    have HE : Hid (PageOut w (removed zs i) (.returned (.tuple #[.slice (some ⟨g, 0, none⟩) 512 512, .int .i64 0])) w9) :=
      Lib.hid ⟨g, rfl, hc9, HGN.out, below_wrote hbw hw9 HGN.out hbw.size⟩
    clear hc9 hw9 hh hc hbw hF6
    go_wp2
    go_ret2
    exact HE.out
end Go.Proofs.Ytaadeoobmclpcaa

/- What a device tells in new memory: its log, its mark: the walks. -/
import Derived.Test.YtikcanbhdickgaaDskOpsB
namespace Go.Proofs.Ytikcanbhdickgaa
open Go.ChangeShapes Go.WideShapes Go.ChangeAt Go.RowKit

theorem slc_of_own {w : World} {B g n cap : Nat} {t : TypeId} {xs : List Value} (h : w.ownsRow B t 1 (.slice (some ⟨g, 0, none⟩) n cap) n xs) (h1 : ∀ u ∈ xs, u.oneCell' = true) : Slc w (some g) 1 (.slice (some ⟨g, 0, none⟩) n cap) n xs := by
  have hlt := h.lt g rfl
  have hcell := h.cells (g := g) rfl
  have hlen := h.1
  rcases h.2 with ⟨h', _⟩ | ⟨g', cap', cur, h', hB, hg, e1, e2, e3, _⟩
  · simp at h'
  · simp only [Value.slice.injEq, Option.some.injEq, Addr.mk.injEq, and_true, true_and] at h'
    obtain ⟨rfl, rfl⟩ := h'
    have hadd : ∀ j, (⟨g, 0, none⟩ : Addr).add j = ⟨g, 0 + j, none⟩ := fun j => by unfold Addr.add; split <;> simp_all
    refine ⟨hlen, h1, .inr ⟨g, 0, cap, rfl, rfl, hlt.2, e1, e2, fun j u hu => by rw [← hadd]; exact hcell j u hu, fun j hj => ⟨?_, frozen_of_row _ _ _ _ _ hg⟩⟩⟩
    rw [cell_of_row _ _ _ _ _ _ hg, Nat.zero_add, Array.getElem?_eq_getElem (by omega)]
    rfl
theorem cell_turned {E : Nat → Prop} {w w' : World} {a : Addr} {v : Value} (h : w.cell? a = some v) (ht : Turned E w w') (hE : ¬ E a.block) : w'.cell? a = some v := by
  rw [World.cell?_of_block (ht.block a.block (World.block_lt_of_cell? w a h) hE)]; exact h
/-- New bytes, and no error. -/
def TellsB (w : World) (n : Nat) (l : List Nat) (e : Ending) (w' : World) : Prop := ∃ ao cap bo, e = .returned (.tuple #[.slice ao n cap, .int .i64 0]) ∧ Slc w' bo 1 (.slice ao n cap) n (u8s l) ∧ Below w.heap.size w w' ∧ bo.isSome = true ∧ ∀ b, bo = some b → w.heap.size ≤ b
theorem tellsB_of {w w2 w3 : World} {n cap H : Nat} {l : List Nat} {ao : Option Addr} {bo : Option Nat} (hb : Below w.heap.size w w2) (hs : Slc w3 bo 1 (.slice ao n cap) n (u8s l)) (ht : Turned (fun k => some w.heap.size = some k) w2 w3) (ho : bo = some w.heap.size ∨ bo = some H) (hH : w.heap.size ≤ H) : TellsB w n l (.returned (.tuple #[.slice ao n cap, .int .i64 0])) w3 := by
  refine ⟨ao, cap, bo, rfl, hs, Turned.to_below hb ht (fun k e => by cases e; exact Nat.le_refl _) hb.size, ?_, fun b e => ?_⟩
  · rcases ho with e | e <;> rw [e] <;> rfl
  · rcases ho with e' | e' <;> (rw [e'] at e; cases e)
    · exact Nat.le_refl _
    · exact hH
section
variable {w : World} {S : Dsk} {x : Gh} (h : Dev w S x)
include h
theorem log_does (hd : S.dead = false) : Calls Try.prog 18 #[.pointer (some ⟨x.g, 0, none⟩)] w (TellsB w S.log.length S.log) := by
  obtain ⟨i0, R⟩ := rowU8
  have HD := dead_any h
  rw [hd] at HD
  have H := Lib.hid HD
  obtain ⟨f0, f1, f2, f3, f4, f5, f6, f7, f8, f9, f10, f11, f12, fz⟩ := row13 h.cells
  obtain ⟨ao, cap2, hv, hle, hmx, -⟩ := slc_form h.log.slc
  have hr1 := h.num.1
  have hr2 := h.num.2.1
  have HR := Lib.hid R
  have hsl := h.log.slc
  rw [hv] at f4 hsl
  obtain ⟨L, hL⟩ : ∃ L, L = S.log.length := ⟨_, rfl⟩
  rw [← hL] at f4 hle hr1 hsl ⊢
  obtain ⟨w2, hmk, ho2, hg2⟩ := run_make_own (P := Try.prog) w.drew (w.heap.size) 28 5 i0 (.int .u8 0) 1 R.ht R.hi R.hz R.hsz .i64 .i64 L (by rw [R.hby]; omega) (by unfold maxLen; omega) (Nat.le_refl _)
  have HS := Lib.hid hsl
  have HO := Lib.hid ho2; have HG := Lib.hid hg2
  have HB2 : Hid (Below w.heap.size w w2) := Lib.hid (((Below.refl _ w).drew).grown hg2 (Nat.le_refl _) (fun k hk => by cases hk))
  have hg : x.g < w.heap.size := dev_size h _ (.inl rfl)
  have f4' := (HB2.out.cell (p := ⟨x.g, 4, none⟩) hg).trans f4
  generalize hQ : TellsB w L S.log = Q
  have HQ := Lib.hid hQ
  have HLL := Lib.hid hL
  clear HD h hd hQ hv f0 f1 f2 f3 f5 f6 f7 f8 f9 f10 f11 f12 fz hsl ho2 hg2 R hL
  go_enter Try.func18, Try.ntmps18
  go_wp2_with (go_at_call 20; refine H.out.mono ?_; rintro e w' ⟨rfl, rfl⟩)
  go_region_held3 (fun w' => w'.cell? ⟨x.g, 4, none⟩ = some (.slice ao L cap2)) (go_keep)
    ((refine step_slc HR.out rfl (.tmp 11) (.tmp 15) 28 rfl (by rfl) (by rfl) (slc_of_own HO.out (fun u hu => by cases hu)) (slc_src Try.underlying28 (slc_below HS.out HB2.out)) (Nat.zero_add L) (by unfold maxLen; omega) (by omega) ?_; intro ao3 cap3 bo3 w3 h1 h2 h3; have HS3 := Lib.hid h1; have HT3 := Lib.hid h2; have HO3 := Lib.hid h3; have f4'' := cell_turned f4' h2 (fun e => by have h8 : w.heap.size = x.g := Option.some.inj e; omega); clear h1 h2 h3))
  go_wp2
  rw [← HQ.out]
  exact tellsB_of HB2.out HS3.out HT3.out HO3.out (by have := HG.out.size; simpa using this)
theorem marked_does (hd : S.dead = false) : Calls Try.prog 32 #[.pointer (some ⟨x.g, 0, none⟩)] w (TellsB w S.mark.length S.mark) := by
  obtain ⟨i0, R⟩ := rowU8
  have HD := dead_any h
  rw [hd] at HD
  have H := Lib.hid HD
  obtain ⟨f0, f1, f2, f3, f4, f5, f6, f7, f8, f9, f10, f11, f12, fz⟩ := row13 h.cells
  obtain ⟨ao, cap2, hv, hle, hmx, -⟩ := slc_form h.mark.slc
  have hr1 := h.num.2.2.2.2.1
  have HR := Lib.hid R
  have hsl := h.mark.slc
  rw [hv] at f8 hsl
  obtain ⟨L, hL⟩ : ∃ L, L = S.mark.length := ⟨_, rfl⟩
  rw [← hL] at f8 hle hr1 hsl ⊢
  obtain ⟨w2, hmk, ho2, hg2⟩ := run_make_own (P := Try.prog) w.drew (w.heap.size) 28 5 i0 (.int .u8 0) 1 R.ht R.hi R.hz R.hsz .i64 .i64 L (by rw [R.hby]; omega) (by unfold maxLen; omega) (Nat.le_refl _)
  have HS := Lib.hid hsl
  have HO := Lib.hid ho2; have HG := Lib.hid hg2
  have HB2 : Hid (Below w.heap.size w w2) := Lib.hid (((Below.refl _ w).drew).grown hg2 (Nat.le_refl _) (fun k hk => by cases hk))
  have hg : x.g < w.heap.size := dev_size h _ (.inl rfl)
  have f8' := (HB2.out.cell (p := ⟨x.g, 8, none⟩) hg).trans f8
  generalize hQ : TellsB w L S.mark = Q
  have HQ := Lib.hid hQ
  have HLL := Lib.hid hL
  clear HD h hd hQ hv f0 f1 f2 f3 f4 f5 f6 f7 f9 f10 f11 f12 fz hsl ho2 hg2 R hL
  go_enter Try.func32, Try.ntmps32
  go_wp2_with (go_at_call 20; refine H.out.mono ?_; rintro e w' ⟨rfl, rfl⟩)
  go_region_held3 (fun w' => w'.cell? ⟨x.g, 8, none⟩ = some (.slice ao L cap2)) (go_keep)
    ((refine step_slc HR.out rfl (.tmp 11) (.tmp 15) 28 rfl (by rfl) (by rfl) (slc_of_own HO.out (fun u hu => by cases hu)) (slc_src Try.underlying28 (slc_below HS.out HB2.out)) (Nat.zero_add L) (by unfold maxLen; omega) (by omega) ?_; intro ao3 cap3 bo3 w3 h1 h2 h3; have HS3 := Lib.hid h1; have HT3 := Lib.hid h2; have HO3 := Lib.hid h3; have f8'' := cell_turned f8' h2 (fun e => by have h8 : w.heap.size = x.g := Option.some.inj e; omega); clear h1 h2 h3))
  go_wp2
  rw [← HQ.out]
  exact tellsB_of HB2.out HS3.out HT3.out HO3.out (by have := HG.out.size; simpa using this)
end
end Go.Proofs.Ytikcanbhdickgaa

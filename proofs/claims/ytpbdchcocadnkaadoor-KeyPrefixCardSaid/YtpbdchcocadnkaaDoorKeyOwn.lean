/- A row of bytes of one's own: plain words and laws. -/
import Derived.Test.YtpbdchcocadnkaaDoorDskSlc
import Derived.OwnWalk
import Derived.Defers
import Derived.Recover
import Derived.Laws.Pointers
import Derived.LoopN
namespace Go.Proofs.YtpbdchcocadnkaaDoor
open Go.ChangeShapes Go.WideShapes Go.ChangeAt Go.RowKit

theorem rowyU : Rowy Tryd.prog 22 5 (info_parts info5).choose (.int .u8 0) 1 1 := by
  obtain ⟨hi, hz0, hz1, hz2⟩ := (info_parts info5).choose_spec
  exact ⟨Tryd.underlying22, hi, hz0, hz1, hz2, rfl⟩
theorem u8s_append (l m : List Nat) : u8s (l ++ m) = u8s l ++ u8s m := by simp [u8s]
theorem u8s_len (l : List Nat) : (u8s l).length = l.length := by simp [u8s]
/-- Bytes in memory that is newer than W's. -/
def Own (W w : World) (a : Option Addr) (n c : Nat) (l : List Nat) : Prop := l.length = n ∧ (∀ x ∈ l, x < 256) ∧ ∃ bo, Slc w bo 1 (.slice a n c) n (u8s l) ∧ ∀ b, bo = some b → W.heap.size ≤ b
theorem own_bytes {W w : World} {a : Option Addr} {n c : Nat} {l : List Nat} (h : Own W w a n c l) : BytesAt w a l := by
  obtain ⟨_, h2, bo, h3, _⟩ := h
  exact slc_bytes h3 h2
theorem own_under {W w w' : World} {a : Option Addr} {n c : Nat} {l : List Nat} (h : Own W w a n c l) (hb : Below w.heap.size w w') : Own W w' a n c l := by
  obtain ⟨h1, h2, bo, h3, h4⟩ := h
  exact ⟨h1, h2, bo, slc_below h3 hb, h4⟩
theorem own_more {W w w' : World} {a' : Option Addr} {n n' c' : Nat} {l m : List Nat} {bo bo' : Option Nat} (hl : l.length = n) (hn : n + m.length = n') (hz : ∀ x ∈ l, x < 256) (hm : ∀ x ∈ m, x < 256) (hB : Below W.heap.size W w) (hbo : ∀ b, bo = some b → W.heap.size ≤ b)
    (h1 : Slc w' bo' 1 (.slice a' n' c') n' (u8s l ++ u8s m)) (h2 : Turned (fun k => bo = some k) w w') (h3 : bo' = bo ∨ bo' = some w.heap.size) : Own W w' a' n' c' (l ++ m) ∧ Below W.heap.size W w' := by
  refine ⟨⟨by rw [List.length_append, hl, hn], fun x hx => ?_, bo', by rw [u8s_append]; exact h1, fun b e => ?_⟩, Turned.to_below hB h2 hbo hB.size⟩
  · rcases List.mem_append.1 hx with h | h
    · exact hz x h
    · exact hm x h
  · rcases h3 with h | h
    · exact hbo b (h ▸ e)
    · rw [h] at e; cases e; exact hB.size
theorem const_one (w : World) (c : Nat) (hc : c < 256) : BytesAt (w.alloc (.cells #[.int .u8 (c : Int)] 5)) (some ⟨w.heap.size, 0, none⟩) [c] := bytes_alloc w [c] (fun q hq => by rw [List.mem_singleton] at hq; rw [hq]; exact hc) (by show 1 ≤ maxLen; unfold maxLen; decide) (0, 0)
theorem own_const {W V : World} (hB : Below W.heap.size W V) (c : Nat) (hc : c < 256) : Own W (V.alloc (.cells #[.int .u8 (c : Int)] 5)) (some ⟨V.heap.size, 0, none⟩) 1 1 [c] :=
  ⟨rfl, fun x hx => by rw [List.mem_singleton] at hx; rw [hx]; exact hc, some V.heap.size, by
    refine ⟨rfl, fun u hu => by simp only [u8s, List.map_cons, List.map_nil, List.mem_singleton] at hu; subst hu; rfl, .inr ⟨V.heap.size, 0, 1, rfl, rfl, by simp, Nat.le_refl _, by unfold maxLen; decide, fun j u hu => ?_, fun j hj => ?_⟩⟩
    · rw [Nat.zero_add, World.cell?_alloc_mark]
      simpa [u8s] using hu
    · obtain rfl : j = 0 := by omega
      exact ⟨by rw [Nat.zero_add, World.cell?_alloc_mark]; rfl, frozen_of_row _ _ _ _ _ (heap_alloc_new V _)⟩, fun b e => by cases e; exact hB.size⟩
theorem own_mono {W W' w : World} {a : Option Addr} {n c : Nat} {l : List Nat} (h : Own W' w a n c l) (hs : W.heap.size ≤ W'.heap.size) : Own W w a n c l := by
  obtain ⟨h1, h2, bo, h3, h4⟩ := h
  exact ⟨h1, h2, bo, h3, fun b e => Nat.le_trans hs (h4 b e)⟩
theorem below_alloc' {a w : World} (h : Below a.heap.size a w) (o : Obj) : Below a.heap.size a (w.alloc o) := h.alloc h.size o
theorem own_drew {W w : World} {a : Option Addr} {n c : Nat} {l : List Nat} (h : Own W w a n c l) : Own W w.drew a n c l := own_under h (Below.drew (Below.refl _ _))
theorem slc_of_own {w : World} {B g n cap : Nat} {t : TypeId} {xs : List Value} (h : w.ownsRow B t 1 (.slice (some ⟨g, 0, none⟩) n cap) n xs) (h1 : ∀ u ∈ xs, u.oneCell' = true) : Slc w (some g) 1 (.slice (some ⟨g, 0, none⟩) n cap) n xs := by
  have hlt := h.lt g rfl
  have hcell := h.cells (g := g) rfl
  have hlen := h.1
  rcases h.2 with ⟨h', _⟩ | ⟨g', cap', cur, h', hB, hg, e1, e2, e3, _⟩
  · simp at h'
  · simp only [Value.slice.injEq, Option.some.injEq, Addr.mk.injEq, and_true, true_and] at h'
    obtain ⟨rfl, rfl⟩ := h'
    have hadd : ∀ j, (⟨g, 0, none⟩ : Addr).add j = ⟨g, 0 + j, none⟩ := fun j => by unfold Addr.add; split <;> simp_all
    refine ⟨hlen, h1, .inr ⟨g, 0, cap, rfl, rfl, hlt.2, e1, e2, fun j u hu => by rw [← hadd]; exact hcell j u hu, fun j hj => ⟨?_, frozen_of_row _ _ _ _ _ hg⟩⟩⟩
    rw [cell_of_row _ _ _ _ _ _ hg, Nat.zero_add, Array.getElem?_eq_getElem (by omega)]
    rfl
theorem own_start (W V : World) {w2 : World} {n : Nat} (hB : Below W.heap.size W V) (h : w2.ownsRow V.heap.size 5 1 (.slice (some ⟨V.heap.size, 0, none⟩) 0 n) 0 []) (hg : V.grownBy w2 none) :
    Slc w2 (some V.heap.size) 1 (.slice (some ⟨V.heap.size, 0, none⟩) 0 n) 0 (u8s []) ∧ Below W.heap.size W w2 ∧ ∀ b, some V.heap.size = some b → W.heap.size ≤ b :=
  ⟨slc_of_own h (fun u hu => by cases hu), hB.grown hg hB.size (fun k hk => by cases hk), fun b e => by cases e; exact hB.size⟩
theorem own_cap {W w : World} {a : Option Addr} {n c : Nat} {l : List Nat} (h : Own W w a n c l) : n ≤ c := by
  obtain ⟨_, _, bo, hs, _⟩ := h
  obtain ⟨ao, cap, e, h, _⟩ := slc_form hs
  cases e
  exact h
theorem byte_at {w : World} {a : Option Addr} {zs : List Nat} {n : Nat} (hb : BytesAt w a zs) (hl : zs.length = n) (j : Nat) (hj : j < n) : ∃ b off, a = some ⟨b, off, none⟩ ∧ w.cell? ⟨b, off + j, none⟩ = some (.int .u8 (zs.getD j 0 : Int)) ∧ zs.getD j 0 < 256 := by
  obtain ⟨b, off, e, hc⟩ := hb.2.2 j (by omega)
  have hg : zs.getD j 0 = zs[j]'(by omega) := by simp [List.getD, List.getElem?_eq_getElem (show j < zs.length by omega)]
  exact ⟨b, off, e, by rw [hg]; exact hc, by rw [hg]; exact hb.1 _ (List.getElem_mem _)⟩
theorem cell_at {w : World} {b off : Nat} {zs : List Nat} {n : Nat} (hb : BytesAt w (some ⟨b, off, none⟩) zs) (hl : zs.length = n) (j : Nat) (hj : j < n) : w.cell? ⟨b, off + j, none⟩ = some (.int .u8 (zs.getD j 0 : Int)) ∧ zs.getD j 0 < 256 := by
  obtain ⟨b', off', e, hc, hz⟩ := byte_at hb hl j hj
  cases e
  exact ⟨hc, hz⟩
theorem own_set {W w : World} {b off n c : Nat} {l : List Nat} (h : Own W w (some ⟨b, off, none⟩) n c l) (j x : Nat) (hj : j < n) (hx : x < 256) : Own W (w.setCell ⟨b, off + j, none⟩ (.int .u8 (x : Int))) (some ⟨b, off, none⟩) n c (l.set j x) := by
  obtain ⟨h1, h2, bo, h3, h4⟩ := h
  refine ⟨by rw [List.length_set, h1], fun y hy => ?_, bo, ?_, h4⟩
  · rcases List.mem_or_eq_of_mem_set hy with h | h
    · exact h2 y h
    · rw [h]; exact hx
  obtain ⟨k1, k2, k3⟩ := h3
  refine ⟨by simpa [u8s] using k1, fun u hu => ?_, ?_⟩
  · exact u8s_one _ u hu
  rcases k3 with ⟨_, e, _⟩ | ⟨b', off', cap, e1, e2, e3, e4, e5, e6, e7⟩
  · cases e
  · simp only [Value.slice.injEq, Option.some.injEq, Addr.mk.injEq, and_true, true_and] at e2
    obtain ⟨⟨rfl, rfl⟩, rfl⟩ := e2
    have hc := e7 j (by omega)
    refine .inr ⟨b, off, c, e1, rfl, by simpa using e3, e4, e5, fun i u hu => ?_, fun i hi => ?_⟩
    · by_cases hij : i = j
      · subst hij
        have hl : i < l.length := by omega
        have hu' : u = .int .u8 (x : Int) := by simpa [u8s, hl] using hu.symm
        rw [hu', World.cell?_setCell_same' _ _ _ hc.1]
      · have hu' : (u8s l)[i]? = some u := by
          simp only [u8s, List.getElem?_map, List.getElem?_set] at hu ⊢
          rwa [if_neg (fun e => hij e.symm)] at hu
        rw [World.cell?_setCell_other _ _ _ _ (by intro e; simp only [Addr.mk.injEq] at e; omega)]
        exact e6 i u hu'
    · have hi' := e7 i hi
      refine ⟨?_, by rw [World.frozen?_setCell]; exact hi'.2⟩
      by_cases hij : i = j
      · subst hij
        rw [World.cell?_setCell_same' _ _ _ hc.1]; rfl
      · rw [World.cell?_setCell_other _ _ _ _ (by intro e; simp only [Addr.mk.injEq] at e; omega)]
        exact hi'.1
end Go.Proofs.YtpbdchcocadnkaaDoor

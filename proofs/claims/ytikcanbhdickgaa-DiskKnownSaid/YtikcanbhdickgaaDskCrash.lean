/- What a crash leaves: clones, a page that is put, a page that is torn. -/
import Derived.Test.YtikcanbhdickgaaDskNew
namespace Go.Proofs.Ytikcanbhdickgaa
open Go.ChangeShapes Go.WideShapes Go.ChangeAt Go.RowKit

theorem clone_ptrs {bo : Option Nat} {v : Value} {n : Nat} {xs : List Value} {w : World} (h : Slc w bo 1 v n xs) (hn : n ≤ 65536) : Calls Try.prog 37 #[v] w (NewSlc w 1 n xs) := by
  obtain ⟨i0, R⟩ := rowPtr
  have HR := Lib.hid R
  have HS := Lib.hid h
  generalize hQ : NewSlc w 1 n xs = Q
  have HQ := Lib.hid hQ
  obtain ⟨ao, cap, rfl, hle, hmx, hz, hp⟩ := slc_form h
  have hsrc : ∀ o, _root_.Go.Src Try.prog 1 61 (.slice ao n cap) n xs (w.alloc o) := fun o => slc_src Try.underlying61 (slc_below h (below_alloc w o))
  have HX := Lib.hid hsrc
  clear R h hsrc hQ hp hz
  cases ao with
  | none =>
    have e1 := fun (w : World) => Lib.run_eql_slice_nil (P := Try.prog) w 61 70 none n cap 0 0 Try.underlying61
    simp only [Option.isNone_none] at e1
    go_enter Try.func37, Try.ntmps37
    go_wp2
    rw [← HQ.out]
    obtain ⟨h1, h2, ⟨_, e, h3⟩ | ⟨b, off, cap', e1', e, _⟩⟩ := HS.out
    · subst h3
      obtain rfl : xs = [] := List.length_eq_zero_iff.1 (by simpa using h1)
      exact ⟨none, 0, none, rfl, slc_nil w 1, Below.refl _ _, fun b e => by cases e⟩
    · cases e
  | some ad =>
    have e1 := fun (w : World) => Lib.run_eql_slice_nil (P := Try.prog) w 61 70 (some ad) n cap 0 0 Try.underlying61
    simp only [Option.isNone_some] at e1
    go_enter Try.func37, Try.ntmps37
    go_wp2_with (at_builtin; refine wpList_slc HR.out rfl (.tmp 5) (.tmp 6) 61 rfl rfl rfl (slc_fresh w 70 1) (HX.out _) (Nat.zero_add n) (by unfold maxLen; omega) (by omega) ?_; intro ao cap' bo w1 h1 h2 h3; have HS1 := Lib.hid h1; have HT := Lib.hid h2; have HO := Lib.hid h3; clear h1 h2 h3)
    rw [← HQ.out]
    refine ⟨ao, cap', bo, rfl, HS1.out, Turned.none_below ?_, fun b e => ?_⟩
    · exact ((Turned.refl _ w).alloc _).trans HT.out (fun k hk => by cases hk; exact .inr (Nat.le_refl _))
    · rcases HO.out with h | h
      · rw [h] at e; cases e; exact Nat.le_refl _
      · rw [h] at e; cases e; simp
/-- A cell of a slice is set. -/
theorem slc_set {w : World} {b off n cap j : Nat} {xs : List Value} (h : Slc w (some b) 1 (.slice (some ⟨b, off, none⟩) n cap) n xs) (hj : j < n) (u : Value) (hu : u.oneCell' = true) : Slc (w.setCell ⟨b, off + j, none⟩ u) (some b) 1 (.slice (some ⟨b, off, none⟩) n cap) n (xs.set j u) := by
  have hl : xs.length = n := by have := h.1; omega
  obtain ⟨h1, h2, ⟨e, _⟩ | ⟨b', off', cap', e1, e2, hb, hle, hmx, hx, hsp⟩⟩ := h
  · cases e
  · cases e1; cases e2
    refine ⟨by simpa using h1, fun v hv => ?_, .inr ⟨_, _, _, rfl, rfl, by simpa [World.setCell] using hb, hle, hmx, fun k v hv => ?_, fun k hk => ?_⟩⟩
    · rcases List.mem_or_eq_of_mem_set hv with h' | h'
      · exact h2 v h'
      · rw [h']; exact hu
    · rw [List.getElem?_set] at hv
      by_cases e : j = k
      · subst e
        rw [if_pos rfl, if_pos (by omega)] at hv
        cases hv
        exact World.cell?_setCell_same' _ _ _ (hsp j (by omega)).1
      · rw [if_neg e] at hv
        rw [World.cell?_setCell_other _ _ _ _ (by intro e'; apply e; simp only [Addr.mk.injEq] at e'; omega)]
        exact hx k v hv
    · rw [World.frozen?_setCell]
      refine ⟨?_, (hsp k hk).2⟩
      by_cases e : j = k
      · subst e
        rw [World.cell?_setCell_same' _ _ _ (hsp j hk).1]
        rfl
      · rw [World.cell?_setCell_other _ _ _ _ (by intro e'; apply e; simp only [Addr.mk.injEq] at e'; omega)]
        exact (hsp k hk).1
/-- Where a page's pointer stands. -/
theorem slc_cell {w : World} {bo : Option Nat} {v : Value} {n j : Nat} {xs : List Value} (h : Slc w bo 1 v n xs) (hj : j < n) (u : Value) (hu : xs[j]? = some u) :
    ∃ b off cap, bo = some b ∧ v = .slice (some ⟨b, off, none⟩) n cap ∧ b < w.heap.size ∧ n ≤ cap ∧ cap ≤ maxLen ∧ w.cell? ⟨b, off + j, none⟩ = some u ∧ w.frozen? ⟨b, off + j, none⟩ = false := by
  obtain ⟨_, _, ⟨_, _, e⟩ | ⟨b, off, cap, e1, e2, hb, h1, h2, h4, h3⟩⟩ := h
  · omega
  · exact ⟨b, off, cap, e1, e2, hb, h1, h2, h4 j u hu, (h3 j (by omega)).2⟩
section
variable {w w' : World} {S : Dsk} {x : Gh}
/-- A page's pointer is put. -/
theorem dev_put (h : Dev w S x) {b off cap n pb : Nat} {l : List Nat} (hsb : x.sb = some b) (hsv : x.sv = .slice (some ⟨b, off, none⟩) x.P.length cap) (hn : n < x.P.length) (hlf : Leaf w pb l) (hpb : ¬ Ex x pb) (hps : pb < w.heap.size) :
    Dev (w.setCell ⟨b, off + n, none⟩ (ptr (some pb))) { S with pages := S.pages.set n l } { x with P := x.P.set n (some pb, l), I := fun k => x.I k ∨ k = pb } := by
  obtain ⟨a1, a2, a3, a4, a5, a6, a7, a8, a9, a10⟩ := h.apart
  have ht : Turned (fun k => k = b) w (w.setCell ⟨b, off + n, none⟩ (ptr (some pb))) := turned_g _
  have hI : ∀ k, x.I k ∨ k = pb → (w.setCell ⟨b, off + n, none⟩ (ptr (some pb))).heap[k]? = w.heap[k]? := fun k hk => by
    rcases hk with hk | rfl
    · exact ht.block k (h.out k hk).2.2.2.2.2 (fun e => (h.out k hk).2.2.1 (by rw [e]; exact hsb))
    · exact ht.block k hps (fun e => hpb (.inr (.inr (.inl (by rw [e]; exact hsb)))))
  have hne : ∀ {bo : Option Nat}, bo ≠ some b → (∀ k, bo = some k → k < w.heap.size) → ∀ k, bo = some k → (w.setCell ⟨b, off + n, none⟩ (ptr (some pb))).heap[k]? = w.heap[k]? := fun hn hs k e => ht.block k (hs k e) (fun e' => hn (by rw [e, e']))
  have hsl := h.sure.slc
  rw [hsb, hsv] at hsl
  have hset := slc_set hsl hn (ptr (some pb)) rfl
  have hpl : S.pages.length = x.P.length := by rw [← h.sure.is, List.length_map]
  have hg : (w.setCell ⟨b, off + n, none⟩ (ptr (some pb))).heap[x.g]? = w.heap[x.g]? := ht.block x.g (dev_size h _ (.inl rfl)) (fun e => a2 (by rw [e]; exact hsb))
  exact {
    cells := by unfold Cells; rw [hg]; exact h.cells
    sure := ⟨by
        have e : (x.P.set n (some pb, l)).map (fun p => ptr p.1) = (x.P.map fun p => ptr p.1).set n (ptr (some pb)) := by rw [List.map_set]
        rw [e, List.length_set, hsb, hsv]
        exact hset, fun p hp => by
        rcases List.mem_or_eq_of_mem_set hp with h' | rfl
        · rcases h.sure.leaf p h' with h1 | ⟨k, h1, h2, h3⟩
          · exact .inl h1
          · exact .inr ⟨k, h1, leaf_kept h2 (hI k (.inl h3)), .inl h3⟩
        · exact .inr ⟨pb, rfl, leaf_kept hlf (hI pb (.inr rfl)), .inr rfl⟩, by rw [List.map_set, h.sure.is], by rw [List.length_set]; exact h.sure.few⟩
    last := by
      have := dlast_kept h.last (ht.block _ h.last.own.lt (fun e => a3 (by rw [e]; exact hsb)))
      rw [List.length_set]; exact this
    wait := by
      have := dwait_kept h.wait ht.size (hne (fun e => by
        rcases a8 with a | a
        · rw [a] at hsb; cases hsb
        · exact a (by rw [hsb, e])) (slc_lt h.wait.slc)) (fun k hk => hI k (.inl hk))
      refine ⟨this.slc, fun y hy => ?_, this.is⟩
      obtain ⟨h1, h2, h3⟩ := this.leaf y hy
      exact ⟨by rw [List.length_set]; exact h1, h2, .inl h3⟩
    torn := ⟨fun t e => by
        obtain ⟨h1, h2, h3, h4, h5⟩ := (dtorn_kept h.torn (fun k hk => hI k (.inl hk))).at' t e
        exact ⟨h1, .inl h2, h3, .inl h4, by rw [List.length_set]; exact h5⟩, h.torn.is⟩
    log := dbyte_kept h.log ht.size (hne (fun e => by
        rcases a9 with a | a
        · rw [a] at hsb; cases hsb
        · exact a (by rw [hsb, e])) (slc_lt h.log.slc))
    half := dbyte_kept h.half ht.size (fun k e => hI k (.inl (h.keptI.1 k e)))
    mark := dbyte_kept h.mark ht.size (fun k e => hI k (.inl (h.keptI.2 k e)))
    keptI := ⟨fun k e => .inl (h.keptI.1 k e), fun k e => .inl (h.keptI.2 k e)⟩
    num := h.num
    left := h.left
    apart := h.apart
    out := fun k hk => by
      have hk' : ¬ Ex x k ∧ k < w.heap.size := by
        rcases hk with hk | rfl
        · exact ⟨dev_out h hk, (h.out k hk).2.2.2.2.2⟩
        · exact ⟨hpb, hps⟩
      exact ⟨fun e => hk'.1 (.inl e), fun e => hk'.1 (.inr (.inl e)), fun e => hk'.1 (.inr (.inr (.inl e))), fun e => hk'.1 (.inr (.inr (.inr (.inl e)))), fun e => hk'.1 (.inr (.inr (.inr (.inr e)))), Nat.lt_of_lt_of_le hk'.2 ht.size⟩ }
end
end Go.Proofs.Ytikcanbhdickgaa

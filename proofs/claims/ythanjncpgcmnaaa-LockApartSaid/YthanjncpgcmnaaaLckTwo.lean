/- Two tables that live side by side. -/
import Derived.Test.YthanjncpgcmnaaaLckRel
import Derived.Test.YthanjncpgcmnaaaLckDeedS
namespace Go.Proofs.Ythanjncpgcmnaaa
open Go.ChangeShapes Go.WideShapes Go.ChangeAt Go.RowKit

set_option maxHeartbeats 1000000 in
theorem numbers_same {w : World} {b1 b2 : Option Nat} {v1 v2 : Value} {n : Nat} {l : List Nat} (h1 : Slc w b1 1 v1 n (u64s l)) (h2 : Slc w b2 1 v2 n (u64s l)) (hn : l.length = n) :
    Calls Try.prog 14 #[v1, v2] w fun e w' => e = .returned (.bool true) ∧ Below w.heap.size w w' := by
  obtain ⟨a1, c1, rfl, p1, p2, -⟩ := slc_form h1
  obtain ⟨a2, c2, rfl, -⟩ := slc_form h2
  unfold maxLen at p2
  have H1 := Lib.hid h1; have H2 := Lib.hid h2; have HN := Lib.hid hn
  clear h1 h2 hn
  go_enter Try.func14, Try.ntmps14
  go_wp2
  go_loopw [5] (fun i wr => ∃ j : Nat, j ≤ n ∧ i = .int .i64 (j : Int) ∧ Hid (Below w.heap.size w wr)) (fun i _ => n - (intOf i).toNat)
  case atStart => exact ⟨0, Nat.zero_le _, rfl, Lib.hid (Below.refl _ _)⟩
  case round =>
    obtain ⟨j, hj, rfl, hb⟩ := hrel
    by_cases hlt : j < n
    · have hjl : j < l.length := by rw [HN.out]; exact hlt
      have hu : (u64s l)[j]? = some (.int .u64 (l[j] : Int)) := by rw [u64s, List.getElem?_map, List.getElem?_eq_getElem hjl]; rfl
      obtain ⟨d1, o1, rfl, e1⟩ := slc_at (slc_below H1.out hb.out) hu hlt
      obtain ⟨d2, o2, rfl, e2⟩ := slc_at (slc_below H2.out hb.out) hu hlt
      generalize l[j] = z at e1 e2
      clear hu hjl
      go_wp2
      go_quiet (fail)
      have HB2 := Lib.hid (hb.out.trans ((below_drew1 wr nq).mono hb.out.size))
      go_wp2
      go_roundw
      case rel => exact ⟨j + 1, by omega, by go_num, HB2⟩
      case measure => simp [intOf]; omega
    · have : j = n := by omega
      subst this
      go_wp2
      go_ret
      exact ⟨rfl, hb.out⟩
/-- Tables at g and g', made since w0; the blocks of A are none of theirs. -/
structure Two (w0 w : World) (g g' : Nat) (S T : St) (N M : Nat) (A : Nat → Prop) : Prop where
  ex : ∃ x y, Tab w g S x N ∧ Tab w g' T y M ∧ (∀ b, x.who b ≠ .out → w0.heap.size ≤ b ∧ y.who b = .out ∧ ¬ A b) ∧ (∀ b, y.who b ≠ .out → w0.heap.size ≤ b ∧ ¬ A b)
  below : Below w0.heap.size w0 w
  lt : ∀ b, A b → b < w.heap.size
section
variable {w0 w : World} {g g' : Nat} {S T : St} {N M : Nat} {A : Nat → Prop}
theorem Two.symm (h : Two w0 w g g' S T N M A) : Two w0 w g' g T S M N A := by
  obtain ⟨⟨x, y, hx, hy, h1, h2⟩, hb, hl⟩ := h
  exact ⟨⟨y, x, hy, hx, fun b hb => ⟨(h2 b hb).1, Classical.byContradiction fun h => hb (h1 b h).2.1, (h2 b hb).2⟩, fun b hb => ⟨(h1 b hb).1, (h1 b hb).2.2⟩⟩, hb, hl⟩
theorem Two.le (h : Two w0 w g g' S T N M A) : ∀ n o, S.hold n o ≤ 4 := by
  obtain ⟨⟨x, y, hx, _⟩, _, _⟩ := h
  exact hold_le hx
/-- What is done to the first. -/
theorem two_step (h : Two w0 w g g' S T N M A) : ∃ x, Tab w g S x N ∧ ∀ {w' : World} {S' : St} {x' : Gh} {N' : Nat}, Tab w' g S' x' N' → Steps w w' x x' → Two w0 w' g g' S' T N' M A ∧ ∀ k, A k → w'.heap[k]? = w.heap[k]? := by
  obtain ⟨⟨x, y, hx, hy, h1, h2⟩, hb, hl⟩ := h
  refine ⟨x, hx, fun {w' S' x' N'} t s => ⟨⟨⟨x', y, t, hy.turned s.turned (fun b e => (h1 b e).2.1), fun b hb' => ?_, h2⟩, Turned.to_below hb s.turned (fun b e => (h1 b e).1) hb.size, fun b hb' => Nat.lt_of_lt_of_le (hl b hb') s.turned.size⟩, fun k hk => s.turned.block k (hl k hk) (fun e => (h1 k e).2.2 hk)⟩⟩
  by_cases hlt : b < w.heap.size
  · rw [s.ext b hlt] at hb'; exact h1 b hb'
  · refine ⟨by have := hb.size; omega, Classical.byContradiction fun e => hlt (hy.lt b e), fun e => hlt (hl b e)⟩
theorem two_below {w' : World} (h : Two w0 w g g' S T N M A) (hb : Below w.heap.size w w') : Two w0 w' g g' S T N M (fun k => A k ∨ (w.heap.size ≤ k ∧ k < w'.heap.size)) := by
  obtain ⟨⟨x, y, hx, hy, h1, h2⟩, hb0, hl⟩ := h
  refine ⟨⟨x, y, hx.below hb, hy.below hb, fun b e => ⟨(h1 b e).1, (h1 b e).2.1, fun h => ?_⟩, fun b e => ⟨(h2 b e).1, fun h => ?_⟩⟩, hb0.trans (hb.mono hb0.size), fun b h => ?_⟩
  · rcases h with h | h
    · exact (h1 b e).2.2 h
    · have := hx.lt b e; omega
  · rcases h with h | h
    · exact (h2 b e).2 h
    · have := hy.lt b e; omega
  · rcases h with h | h
    · exact Nat.lt_of_lt_of_le (hl b h) hb.size
    · exact h.2
theorem two_mono {A' : Nat → Prop} (h : Two w0 w g g' S T N M A) (hA : ∀ k, A' k → A k) {N' M' : Nat} (hN : N ≤ N') (hM : M ≤ M') : Two w0 w g g' S T N' M' A' := by
  obtain ⟨⟨x, y, hx, hy, h1, h2⟩, hb, hl⟩ := h
  exact ⟨⟨x, y, hx.mono hN, hy.mono hM, fun b e => ⟨(h1 b e).1, (h1 b e).2.1, fun h => (h1 b e).2.2 (hA b h)⟩, fun b e => ⟨(h2 b e).1, fun h => (h2 b e).2 (hA b h)⟩⟩, hb, fun b h => hl b (hA b h)⟩
theorem two_on {w' : World} (h : Two w0 w g g' S T N M A) (hb : Below w.heap.size w w') : Two w0 w' g g' S T N M A := two_mono (two_below h hb) (fun _ h => .inl h) (Nat.le_refl _) (Nat.le_refl _)
theorem two_turned {w' : World} {E : Nat → Prop} (h : Two w0 w g g' S T N M A) (ht : Turned E w w') (hE : ∀ k, E k → A k ∧ w0.heap.size ≤ k) : Two w0 w' g g' S T N M A := by
  obtain ⟨⟨x, y, hx, hy, h1, h2⟩, hb, hl⟩ := h
  exact ⟨⟨x, y, hx.turned ht (fun b e => Classical.byContradiction fun h => (h1 b h).2.2 (hE b e).1), hy.turned ht (fun b e => Classical.byContradiction fun h => (h2 b h).2 (hE b e).1), h1, h2⟩, Turned.to_below hb ht (fun k hk => (hE k hk).2) hb.size, fun b h => Nat.lt_of_lt_of_le (hl b h) ht.size⟩
/-- What an operation on the first tells. -/
def TwoGoes (w0 w : World) (g g' : Nat) (S' T : St) (N' M : Nat) (A : Nat → Prop) (r : Value) (e : Ending) (w' : World) : Prop := e = .returned r ∧ Two w0 w' g g' S' T N' M A ∧ ∀ k, A k → w'.heap[k]? = w.heap[k]?
theorem two_ask (h : Two w0 w g g' S T N M A) (hN : N + 20 < 8796093022208) {o : Nat} (ho : o < top) {nm : ByteArray} (hn : nm.size ≤ maxLen) (m : Int) :
    Calls Try.prog 13 #[.pointer (some ⟨g, 0, none⟩), .int .u64 (o : Int), .string nm, .int .i64 m] w (TwoGoes w0 w g g' (askF S o nm m).1 T (N + 1) M A (.int .i64 (askF S o nm m).2)) := by
  obtain ⟨x, t, hs⟩ := two_step h
  refine (ask_all t hN ho hn m).mono ?_
  rintro e w' ⟨x', rfl, t', s'⟩
  exact ⟨rfl, hs t' s'⟩
theorem two_free (h : Two w0 w g g' S T N M A) (I : Inv S) (hN : N + 1 < 8796093022208) {id : Nat} (ho : id < top) :
    Calls Try.prog 16 #[.pointer (some ⟨g, 0, none⟩), .int .u64 (id : Int)] w fun e w' => ∃ ns S' outs v bo, e = .returned v ∧ Names (want S id) ns ∧ All ns (freedG S id) S' outs ∧ Slc w' bo 1 v outs.length (u64s outs) ∧ Two w0 w' g g' S' T N M (fun k => A k ∨ bo = some k) ∧ w.heap.size ≤ w'.heap.size ∧ ∀ k, A k → w'.heap[k]? = w.heap[k]? := by
  obtain ⟨⟨x, y, hx, hy, h1, h2⟩, hb, hl⟩ := h
  refine (free_all hx I hN ho).mono ?_
  rintro e w' ⟨ns, S', x', outs, v, bo, rfl, hn, hall, t', s', _, hslc, hbo⟩
  refine ⟨ns, S', outs, v, bo, rfl, hn, hall, hslc, ⟨⟨x', y, t', hy.turned s'.turned (fun b e => (h1 b e).2.1), fun b hb' => ?_, fun b e => ⟨(h2 b e).1, fun h => ?_⟩⟩, Turned.to_below hb s'.turned (fun b e => (h1 b e).1) hb.size, fun b hb' => ?_⟩, s'.turned.size, fun k hk => s'.turned.block k (hl k hk) (fun e => (h1 k e).2.2 hk)⟩
  · by_cases hlt : b < w.heap.size
    · have hb2 := hb'
      rw [s'.ext b hlt] at hb2
      refine ⟨(h1 b hb2).1, (h1 b hb2).2.1, fun h => ?_⟩
      rcases h with h | h
      · exact (h1 b hb2).2.2 h
      · exact hb' (hbo b h).2
    · refine ⟨by have := hb.size; omega, Classical.byContradiction fun e => hlt (hy.lt b e), fun h => ?_⟩
      rcases h with h | h
      · exact hlt (hl b h)
      · exact hb' (hbo b h).2
  · rcases h with h | h
    · exact (h2 b e).2 h
    · have := hy.lt b e; have := (hbo b h).1; omega
  · rcases hb' with h | h
    · exact Nat.lt_of_lt_of_le (hl b h) s'.turned.size
    · exact slc_lt hslc b h
theorem two_queue (h : Two w0 w g g' S T N M A) (hN : N < 8796093022208) {nm : ByteArray} (hn : nm.size ≤ maxLen) : Calls Try.prog 15 #[.pointer (some ⟨g, 0, none⟩), .string nm] w (QueueTells w ((S.queue nm).map (·.1))) := by
  obtain ⟨x, t, _⟩ := two_step h
  exact queue_any t hN hn
theorem two_victim (h : Two w0 w g g' S T N M A) (I : Inv S) (hN : N < 8796093022208) {o : Nat} (ho : o < top) : Calls Try.prog 18 #[.pointer (some ⟨g, 0, none⟩), .int .u64 (o : Int)] w (VictimTells w S o) := by
  obtain ⟨x, t, _⟩ := two_step h
  exact victim_inv t I hN ho
/-- The second is made. -/
theorem two_new {N : Nat} (L : Live w0 w g S N A) : Calls Try.prog 11 #[] w fun e w' => ∃ g', e = .returned (.pointer (some ⟨g', 0, none⟩)) ∧ Two w0 w' g g' S S0 N 0 A := by
  obtain ⟨⟨x, t, h1, h2⟩, hb, hl⟩ := L
  refine (new_any w).mono ?_
  rintro e w' ⟨g', y, rfl, ty, hb', hy⟩
  refine ⟨g', rfl, ⟨x, y, t.below hb', ty, fun b e => ⟨h1 b e, Classical.byContradiction fun h => ?_, fun h => e (h2 b h)⟩, fun b e => ⟨Nat.le_trans hb.size (hy b e), fun h => ?_⟩⟩, hb.trans (hb'.mono hb.size), fun b h => Nat.lt_of_lt_of_le (hl b h) hb'.size⟩
  · have := hy b h; have := t.lt b e; omega
  · have := hy b e; have := hl b h; omega
end
end Go.Proofs.Ythanjncpgcmnaaa

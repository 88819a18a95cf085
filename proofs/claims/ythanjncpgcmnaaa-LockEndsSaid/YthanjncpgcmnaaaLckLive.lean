/- A table that lives: contracts that hide where it lies; a lock that two share, and one that waits. -/
import Derived.Test.YthanjncpgcmnaaaLckWait
namespace Go.Proofs.Ythanjncpgcmnaaa
open Go.ChangeShapes Go.WideShapes Go.ChangeAt Go.RowKit

/-- A table at g that holds S, made since w0; the blocks of A are none of its own. -/
structure Live (w0 w : World) (g : Nat) (S : St) (N : Nat) (A : Nat → Prop) : Prop where
  ex : ∃ x, Tab w g S x N ∧ (∀ b, x.who b ≠ .out → w0.heap.size ≤ b) ∧ ∀ b, A b → x.who b = .out
  below : Below w0.heap.size w0 w
  lt : ∀ b, A b → b < w.heap.size
/-- An operation's answer. -/
def Goes (w0 w : World) (g : Nat) (S' : St) (N' : Nat) (A : Nat → Prop) (r : Value) (e : Ending) (w' : World) : Prop := e = .returned r ∧ Live w0 w' g S' N' A ∧ ∀ k, A k → w'.heap[k]? = w.heap[k]?
theorem live_mono {w0 w : World} {g : Nat} {S : St} {N N' : Nat} {A A' : Nat → Prop} (h : Live w0 w g S N A) (hA : ∀ k, A' k → A k) (hN : N ≤ N') : Live w0 w g S N' A' := by
  obtain ⟨⟨x, h1, h2, h3⟩, h5, h6⟩ := h
  exact ⟨⟨x, h1.mono hN, h2, fun b hb => h3 b (hA b hb)⟩, h5, fun b hb => h6 b (hA b hb)⟩
/-- New memory, nothing else: the new blocks are apart. -/
theorem live_below {w0 w w' : World} {g : Nat} {S : St} {N : Nat} {A : Nat → Prop} (h : Live w0 w g S N A) (hb : Below w.heap.size w w') : Live w0 w' g S N (fun k => A k ∨ (w.heap.size ≤ k ∧ k < w'.heap.size)) := by
  obtain ⟨⟨x, h1, h2, h3⟩, h5, h6⟩ := h
  refine ⟨⟨x, h1.below hb, h2, fun b hb' => ?_⟩, h5.trans (hb.mono h5.size), fun b hb' => ?_⟩
  · rcases hb' with hb' | ⟨hb', _⟩
    · exact h3 b hb'
    · cases hw : x.who b with
      | out => rfl
      | _ => exact absurd (h1.lt b (by rw [hw]; simp)) (by omega)
  · rcases hb' with hb' | ⟨_, hb'⟩
    · exact Nat.lt_of_lt_of_le (h6 b hb') hb.size
    · exact hb'
theorem live_on {w0 w w' : World} {g : Nat} {S : St} {N : Nat} {A : Nat → Prop} (h : Live w0 w g S N A) (hb : Below w.heap.size w w') : Live w0 w' g S N A := live_mono (live_below h hb) (fun _ hk => .inl hk) (Nat.le_refl _)
/-- What is done to other blocks. -/
theorem live_turned {w0 w w' : World} {g : Nat} {S : St} {N : Nat} {A E : Nat → Prop} (h : Live w0 w g S N A) (ht : Turned E w w') (hE : ∀ k, E k → A k ∧ w0.heap.size ≤ k) : Live w0 w' g S N A := by
  obtain ⟨⟨x, h1, h2, h3⟩, h5, h6⟩ := h
  exact ⟨⟨x, h1.turned ht (fun b hb => h3 b (hE b hb).1), h2, h3⟩, Turned.to_below h5 ht (fun k hk => (hE k hk).2) h5.size, fun b hb => Nat.lt_of_lt_of_le (h6 b hb) ht.size⟩
theorem live_new (w0 w : World) (hb : Below w0.heap.size w0 w) (A : Nat → Prop) (hA : ∀ k, A k → k < w.heap.size) : Calls Try.prog 11 #[] w fun e w' => ∃ g, e = .returned (.pointer (some ⟨g, 0, none⟩)) ∧ Live w0 w' g S0 0 A ∧ Below w.heap.size w w' ∧ w.heap.size ≤ g :=
  (new_any w).mono (fun e w' ⟨g, x, h1, h2, h3, h4⟩ => ⟨g, h1, ⟨⟨x, h2, fun b hb' => Nat.le_trans hb.size (h4 b hb'), fun b hb' => by
    cases hw : x.who b with
    | out => rfl
    | _ => have h5 := h4 b (by rw [hw]; simp); have h6 := hA b hb'; omega⟩, hb.trans (h3.mono hb.size), fun b hb' => Nat.lt_of_lt_of_le (hA b hb') h3.size⟩, h3, h4 g (by rw [h2.tag]; simp)⟩)
theorem live_does {w0 w : World} {g : Nat} {S S' : St} {N N' : Nat} {A : Nat → Prop} {f : Nat} {args : Array Value} {r : Value} (h : Live w0 w g S N A) (hc : ∀ x, Tab w g S x N → Calls Try.prog f args w (Does w g S' x N' r)) : Calls Try.prog f args w (Goes w0 w g S' N' A r) := by
  obtain ⟨⟨x, h1, h2, h3⟩, h5, h6⟩ := h
  refine (hc x h1).mono ?_
  rintro e w' ⟨x', rfl, t, s⟩
  have ho : ∀ b, A b → x'.who b = .out := fun b hb => (s.ext b (h6 b hb)).trans (h3 b hb)
  refine ⟨rfl, ⟨⟨x', t, fun b hb => ?_, ho⟩, Turned.to_below h5 s.turned h2 h5.size, fun b hb => Nat.lt_of_lt_of_le (h6 b hb) s.turned.size⟩, fun k hk => s.turned.block k (h6 k hk) (by rw [h3 k hk]; simp)⟩
  by_cases hlt : b < w.heap.size
  · exact h2 b (by rw [← s.ext b hlt]; exact hb)
  · have := h5.size; omega
def nA : ByteArray := ⟨#[97]⟩
theorem nA_size : nA.size ≤ maxLen := by decide
def S1 : St := granted S0 1 nA 3
def S2 : St := granted S1 2 nA 3
theorem lets_S1 : Lets (S1.hold nA) 2 (3 : Nat) := fun a _ h0 => by
  by_cases e : a = 1
  · subst e; decide
  · exfalso; apply h0; simp [S1, granted, S0, upd, e]
theorem lets_S2 : ¬ Lets (S2.hold nA) 1 (4 : Nat) := fun h => by
  have := h 2 (by decide) (by decide)
  revert this; decide
set_option maxHeartbeats 2000000 in
theorem awake_any (w : World) : Calls Try.prog 12 #[] w fun e w' => e = .returned (.bool true) ∧ Below w.heap.size w w' := by
  have HN := Lib.hid (live_new w w (Below.refl _ _) (fun _ => False) (fun _ h => h.elim))
  go_enter Try.func12, Try.ntmps12
  have H1 : Hid (∀ g w1, Live w w1 g S0 0 (fun _ => False) → Calls Try.prog 13 #[.pointer (some ⟨g, 0, none⟩), .int .u64 1, .string { data := #[97] }, .int .i64 3] w1 (Goes w w1 g S1 5 (fun _ => False) (.int .i64 0))) := Lib.hid (fun g w1 h => live_does h (fun x H => ask_first H 1 nA 3 (by decide) (by decide) (by decide) nA_size (by decide) rfl rfl rfl (by decide) (fun a _ h0 => absurd rfl h0)))
  have H2 : Hid (∀ g w1, Live w w1 g S1 5 (fun _ => False) → Calls Try.prog 13 #[.pointer (some ⟨g, 0, none⟩), .int .u64 2, .string { data := #[97] }, .int .i64 3] w1 (Goes w w1 g S2 10 (fun _ => False) (.int .i64 0))) := Lib.hid (fun g w1 h => live_does h (fun x H => ask_first H 2 nA 3 (by decide) (by decide) (by decide) nA_size (by decide) (by decide) (by decide) rfl (by decide) lets_S1))
  have H3 : Hid (∀ g w1, Live w w1 g S2 10 (fun _ => False) → Calls Try.prog 13 #[.pointer (some ⟨g, 0, none⟩), .int .u64 1, .string { data := #[97] }, .int .i64 4] w1 (Goes w w1 g (lined S2 1 nA 4) 15 (fun _ => False) (.int .i64 10))) := Lib.hid (fun g w1 h => live_does h (fun x H => ask_turn H 1 nA 4 4 (by decide) (by decide) (by decide) nA_size (by decide) (by decide) (by decide) (by decide) (by decide) (by decide) rfl lets_S2))
  go_wp2_with (first
    | (go_at_call 11; refine HN.out.mono ?_; rintro e w1 ⟨g, rfl, h1, -, -⟩; have L0 := Lib.hid h1; clear h1)
    | (go_at_call 13; refine (H1.out _ _ L0.out).mono ?_; rintro e w2 ⟨rfl, h2, -⟩; have L1 := Lib.hid h2; clear h2 L0)
    | (go_at_call 13; refine (H2.out _ _ L1.out).mono ?_; rintro e w3 ⟨rfl, h3, -⟩; have L2 := Lib.hid h3; clear h3 L1)
    | (go_at_call 13; refine (H3.out _ _ L2.out).mono ?_; rintro e w4 ⟨rfl, h4, -⟩; have L3 := Lib.hid h4; clear h4 L2))
  go_ret
  exact ⟨rfl, L3.out.below⟩
end Go.Proofs.Ythanjncpgcmnaaa

/- The document's own numbers in pages, laid and read; its copies: contracts. -/
import Derived.Test.YtaadeoobmclpcaaPagRelMath
import Derived.Test.YtaadeoobmclpcaaPagAwake
namespace Go.Proofs.Ytaadeoobmclpcaa
open Go.ChangeShapes Go.WideShapes Go.ChangeAt Go.RowKit

/-- A block whose first cells are these bytes. -/
def Has (w : World) (g : Nat) (zs : List Nat) : Prop := ∃ cur, Cells w g 5 cur ∧ ∀ j, (h : j < zs.length) → cur[j]? = some (.int .u8 (zs[j] : Int))
theorem has_bytes {w : World} {g : Nat} {zs : List Nat} (h : Has w g zs) (hz : ∀ c ∈ zs, c < 256) (hm : zs.length ≤ maxLen) : BytesAt w (some ⟨g, 0, none⟩) zs := by
  obtain ⟨cur, hc, hf⟩ := h
  exact ⟨hz, hm, fun j hj => ⟨g, 0, rfl, by rw [Nat.zero_add, cell_of_row w g j _ _ _ hc]; exact hf j hj⟩⟩
theorem has_get {w : World} {g : Nat} {zs : List Nat} (h : Has w g zs) {j : Nat} (hj : j < zs.length) : w.cell? ⟨g, j, none⟩ = some (.int .u8 (zs[j] : Int)) := by
  obtain ⟨cur, hc, hf⟩ := h
  rw [cell_of_row w g j _ _ _ hc]
  exact hf j hj
theorem has_frozen {w : World} {g : Nat} {zs : List Nat} (h : Has w g zs) (j : Nat) : w.frozen? ⟨g, j, none⟩ = false := by
  obtain ⟨cur, hc, _⟩ := h
  exact frozen_of_row w g j _ _ hc
theorem has_lt {w : World} {g : Nat} {zs : List Nat} (h : Has w g zs) : g < w.heap.size := by
  obtain ⟨cur, hc, _⟩ := h
  exact (Array.getElem?_eq_some_iff.1 hc).1
theorem has_set {w : World} {g : Nat} {zs : List Nat} (h : Has w g zs) (k c : Nat) (hk : k < zs.length) : Has (w.setCell ⟨g, k, none⟩ (.int .u8 (c : Int))) g (zs.set k c) := by
  obtain ⟨cur, hc, hf⟩ := h
  refine ⟨_, cells_setCell hc, fun j hj => ?_⟩
  rw [List.length_set] at hj
  obtain ⟨hk', _⟩ := Array.getElem?_eq_some_iff.1 (hf k hk)
  by_cases e : j = k
  · subst e
    rw [Array.getElem?_setIfInBounds_self_of_lt hk', List.getElem_set_self]
  · rw [Array.getElem?_setIfInBounds_ne (fun h => e h.symm), List.getElem_set_ne (fun h => e h.symm)]
    exact hf j hj
theorem has_other {w : World} {g b o : Nat} {zs : List Nat} {v : Value} (h : Has w g zs) (hne : g ≠ b) : Has (w.setCell ⟨b, o, none⟩ v) g zs := by
  obtain ⟨cur, hc, hf⟩ := h
  exact ⟨cur, cells_setOther hc hne, hf⟩
theorem has_under {w w' : World} {B g : Nat} {zs : List Nat} (h : Has w g zs) (hb : Below B w w') (hlt : g < B) : Has w' g zs := by
  obtain ⟨cur, hc, hf⟩ := h
  exact ⟨cur, cells_under hc hb hlt, hf⟩
theorem has_next {w w' : World} {g : Nat} {zs : List Nat} (h : Has w g zs) (hb : Below w.heap.size w w') : Has w' g zs := has_under h hb (has_lt h)
theorem has_of_own {w : World} {B g n c : Nat} {zs : List Nat} (h : w.ownsRow B 5 1 (.slice (some ⟨g, 0, none⟩) n c) n (u8s zs)) : Has w g zs ∧ zs.length = n ∧ n ≤ c ∧ c ≤ maxLen ∧ B ≤ g := by
  have hl : zs.length = n := by have := h.1; rw [u8s, List.length_map] at this; omega
  rcases h.2 with ⟨h', _⟩ | ⟨g', cap', cur, h', hB, hg, h1, h2, h3, h4⟩
  · simp at h'
  · simp only [Value.slice.injEq, Option.some.injEq, Addr.mk.injEq, and_true, true_and] at h'
    obtain ⟨rfl, rfl⟩ := h'
    refine ⟨⟨cur, hg, fun j hj => ?_⟩, hl, h1, h2, hB⟩
    have e : (u8s zs)[j]? = cur[j]? := by rw [← h4, List.getElem?_take, if_pos (by omega), Array.getElem?_toList]
    rw [← e, u8s, List.getElem?_map, List.getElem?_eq_getElem hj]
    rfl
/-- Block g alone was turned, of those that were there. -/
def Turned (g : Nat) (w w' : World) : Prop := w.grownBy w' (some g)
theorem turned_refl (g : Nat) (w : World) : Turned g w w := World.grownBy.refl w _
theorem turned_trans {g : Nat} {a b c : World} (h : Turned g a b) (k : Turned g b c) : Turned g a c :=
  ⟨k.os.trans h.os, k.tape.trans h.tape, k.output.trans h.output, Nat.le_trans h.size k.size, fun i hi hne => (k.block i (Nat.lt_of_lt_of_le hi h.size) hne).trans (h.block i hi hne)⟩
theorem turned_set {g : Nat} {w w' : World} (h : Turned g w w') (o : Nat) (v : Value) : Turned g w (w'.setCell ⟨g, o, none⟩ v) :=
  ⟨h.os, h.tape, h.output, by have := h.size; simpa using this, fun k hk hne => by
    rw [heap_setCell_other w' ⟨g, o, none⟩ k v (fun e => hne (by rw [e]))]
    exact h.block k hk hne⟩
theorem turned_below {g : Nat} {w w' : World} (h : Below w.heap.size w w') : Turned g w w' := ⟨h.os, h.tape, h.output, h.size, fun k hk _ => h.block k hk⟩
theorem below_turned {B g : Nat} {w w1 w2 : World} (h : Below B w w1) (ht : Turned g w1 w2) (hB : B ≤ g) (hs : B ≤ w1.heap.size) : Below B w w2 := h.grown ht hs (fun k hk => by cases hk; exact hB)
theorem has_turned {g b : Nat} {w w' : World} {zs : List Nat} (h : Has w b zs) (ht : Turned g w w') (hne : b ≠ g) : Has w' b zs := by
  obtain ⟨cur, hc, hf⟩ := h
  refine ⟨cur, ?_, hf⟩
  unfold Cells
  rw [ht.block b (Array.getElem?_eq_some_iff.1 hc).1 (fun e => hne (by cases e; rfl))]
  exact hc
theorem bytes_turned {g b off : Nat} {w w' : World} {zs : List Nat} (h : BytesAt w (some ⟨b, off, none⟩) zs) (ht : Turned g w w') (hne : b ≠ g) : BytesAt w' (some ⟨b, off, none⟩) zs :=
  ⟨h.1, h.2.1, fun j hj => by
    obtain ⟨b', o, e, hc⟩ := h.2.2 j hj
    cases e
    refine ⟨b, off, rfl, ?_⟩
    rw [World.cell?_of_block (ht.block b (World.block_lt_of_cell? w _ hc) (fun e => hne (by cases e; rfl)))]
    exact hc⟩
theorem cell_one_new (w : World) (v : Value) (t : TypeId) : ∀ (j : Nat) (u : Value), [v][j]? = some u → (w.alloc (.cells #[v] t)).cell? ((⟨w.heap.size, 0, none⟩ : Addr).add j) = some u := by
  intro j u hu
  have hadd : (⟨w.heap.size, 0, none⟩ : Addr).add j = ⟨w.heap.size, j, none⟩ := by unfold Addr.add; split <;> simp_all
  rw [hadd, cell_of_row _ w.heap.size j _ _ _ (cells_new w t #[v])]
  rw [← hu]
  simp
/-- The bytes of n, the lowest first: k of them. -/
def bytesOf (n k : Nat) : List Nat := (List.range k).map fun j => n / 2 ^ (8 * j) % 256
theorem bytesOf_succ (n k : Nat) : bytesOf n (k + 1) = bytesOf n k ++ [n / 2 ^ (8 * k) % 256] := by simp [bytesOf, List.range_succ]
theorem bytesOf_length (n k : Nat) : (bytesOf n k).length = k := by simp [bytesOf]
theorem bytesOf_get (n k j : Nat) (h : j < (bytesOf n k).length) : (bytesOf n k)[j] = n / 2 ^ (8 * j) % 256 := by simp [bytesOf]
/-- What the document's Put leaves. -/
def PutOut (w : World) (l : List Nat) (e : Ending) (w' : World) : Prop :=
  ∃ g c, e = .returned (.slice (some ⟨g, 0, none⟩) l.length c) ∧ w'.ownsRow w.heap.size 5 1 (.slice (some ⟨g, 0, none⟩) l.length c) l.length (u8s l) ∧ Below w.heap.size w w'
theorem rel_put {B k n : Nat} {x : Int} {v' : Value} {w1 : World} (hx : x = ((n / 2 ^ (8 * k) % 256 : Nat) : Int)) (h : w1.ownsRow B 5 1 v' (k + 1) (u8s (bytesOf n k) ++ [.int .u8 x])) : w1.ownsRow B 5 1 v' (k + 1) (u8s (bytesOf n (k + 1))) := by
  rw [bytesOf_succ, show u8s (bytesOf n k ++ [n / 2 ^ (8 * k) % 256]) = u8s (bytesOf n k) ++ [.int .u8 x] from by rw [hx]; simp [u8s]]
  exact h
end Go.Proofs.Ytaadeoobmclpcaa

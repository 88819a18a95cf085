/- Deeds that came in: their names are no longer than a machine holds. -/
import Derived.Test.YthanjncpgcmnaaaLckDeed
namespace Go.Proofs.Ythanjncpgcmnaaa
open Go.ChangeShapes Go.WideShapes Go.ChangeAt Go.RowKit Go.Deep

theorem mem_weightsAll {H : Type} {P : Program} {e : TypeId} {d : DataW H} {n : Nat} : ∀ {ds : List (DataW H)}, d ∈ ds → n ∈ d.weights P e → n ∈ DataW.weightsAll P e ds
  | [], h, _ => by cases h
  | a :: r, h, hn => by
    rw [DataW.weightsAll, List.mem_append]
    rcases List.mem_cons.1 h with h | h
    · subst h; exact .inl hn
    · exact .inr (mem_weightsAll h hn)
/-- What a slice's elements weigh. -/
theorem sized_elems {H : Type} {P : Program} {ts : List TypeId} {ds : List (DataW H)} (h : (DataW.weightsEach P ts ds).all (· ≤ reachBytes) = true) {j : Nat} {t e : TypeId} {elems spare : List (DataW H)} (ht : ts[j]? = some t) (hd : ds[j]? = some (.slice elems spare)) (hu : P.underlying t = some (.slice e)) :
    ∀ d ∈ elems, ∀ n ∈ d.weights P e, n ≤ reachBytes := fun d hm n hn => by
  have := List.all_eq_true.1 h _ (DataW.weights_mem_each ht hd n (by
    simp only [DataW.weights, hu, List.mem_cons, List.mem_append]
    exact .inr (.inl (mem_weightsAll hm hn))))
  simpa using this
def DeedIn2 (w : World) (ao : Option Addr) (k : Nat) : Prop := ∃ b off dd oo nm mm, ao = some ⟨b, off, none⟩ ∧ DeedAt w b (off + k * 4) dd oo nm mm ∧ nm.size ≤ 140737488351232
theorem deeds_in2 {H : Type} {enc : TypeId × Value → H} {W : World} {base : Nat} {fuel : Nat} {ao : Option Addr} {len cap : Nat} {x : DataW H × List MemPlace}
    (hw : ∀ elems spare, x.1 = .slice elems spare → (elems.length + spare.length) * Try.prog.bytesOf 45 ≤ reachBytes)
    (hw2 : ∀ elems spare, x.1 = .slice elems spare → ∀ d ∈ elems, ∀ n ∈ d.weights Try.prog 45, n ≤ reachBytes)
    (h : DataW.trod enc Try.prog W base (fun _ => true) true fuel 40 [.slice ao len cap] = some x) : len ≤ 3518437208883 ∧ ∀ k, k < len → DeedIn2 W ao k := by
  have h1 := deeds_in hw h
  refine ⟨h1.1, fun k hk => ?_⟩
  obtain ⟨b, off, dd, oo, nm, mm, rfl, hd⟩ := h1.2 k hk
  refine ⟨b, off, dd, oo, nm, mm, rfl, hd, ?_⟩
  rcases open_slice_fields Try.underlying40 Try.underlying45 (by kernel_rfl) (by kernel_rfl) h with ⟨hcs, _⟩ | ⟨a, l, c, m, D, Pl, hcs, _, hl, hm, hmm, hx, hf⟩
  · simp at hcs
  · simp only [List.cons.injEq, Value.slice.injEq, and_true, Option.some.injEq] at hcs
    obtain ⟨rfl, rfl, rfl⟩ := hcs
    simp only [if_true] at hmm
    obtain ⟨ys, n, hD, _, hyl, hfs⟩ := hf k (by omega)
    obtain ⟨v2, y2, c2, g2, t2⟩ := hfs 2 _ rfl
    have hc2 : W.cell? ⟨b, off + k * 4 + 2, none⟩ = some v2 := by have := c2; rw [addr_add] at this; exact this
    obtain ⟨s, e2, e3, _⟩ := DataW.trod_string Try.underlying9 t2
    obtain rfl : v2 = .string s := by simpa using e2
    obtain rfl : nm = s := by
      have := hd.c2.symm.trans hc2
      simpa using this
    have hin : D k ∈ (List.range len).map D := List.mem_map.2 ⟨k, by simpa using hk, rfl⟩
    have hw3 := hw2 _ _ (congrArg Prod.fst hx) _ hin nm.data.toList.length (by
      rw [hD]
      unfold DataW.weights
      rw [Try.underlying45]
      simp only
      refine DataW.weights_mem_each (j := 2) (t := 9) (d := y2.1) rfl (by rw [List.getElem?_map, g2]; rfl) _ ?_
      rw [e3]
      simp [DataW.weights])
    have h2 : nm.data.toList.length = nm.size := by rw [Array.length_toList]; rfl
    rw [h2] at hw3
    exact hw3
end Go.Proofs.Ythanjncpgcmnaaa

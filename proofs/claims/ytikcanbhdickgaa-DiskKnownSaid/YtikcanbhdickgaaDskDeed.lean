/- Deeds that came in; what an operation does, whatever it is. -/
import Derived.Test.YtikcanbhdickgaaDskAsk
import Derived.Test.YtikcanbhdickgaaDskRows
namespace Go.Proofs.Ytikcanbhdickgaa
open Go.ChangeShapes Go.WideShapes Go.Deep

section
variable {H : Type} {enc : TypeId × Value → H} {P : Program} {w : World} {base : Nat} {spare : Nat → Bool} {held : Bool}
theorem open_slice_fields {t e : TypeId} {fs : Array Field} {fuel : Nat} {cs : List Value} {x : DataW H × List MemPlace} (ht : P.underlying t = some (.slice e)) (he : P.underlying e = some (.struct fs))
    (hone : oneCellFields P fs = true) (hC : P.cellsOf e = fs.size) (h : DataW.trod enc P w base spare held fuel t cs = some x) :
    (cs = [.slice none 0 0] ∧ x = (.nil, [])) ∨
    ∃ (a : Addr) (len cap m : Nat) (D : Nat → DataW H) (Pl : Nat → List MemPlace), cs = [.slice (some a) len cap] ∧ base ≤ a.block ∧ len ≤ cap ∧ cap ≤ maxLen ∧ m = (if spare a.block then cap else len) ∧
      x = (.slice ((List.range len).map D) ((List.range (m - len)).map fun j => D (len + j)), MemPlace.row a (m * fs.size) ++ (List.range m).flatMap Pl) ∧
      ∀ i, i < m → ∃ (ys : List (DataW H × List MemPlace)) (n : Nat), D i = .agg (ys.map (·.1)) ∧ Pl i = ys.flatMap (·.2) ∧ ys.length = fs.size ∧
        ∀ (j : Nat) (f : Field), fs[j]? = some f → ∃ (v : Value) (y : DataW H × List MemPlace), w.cell? (a.add (i * fs.size + j)) = some v ∧ ys[j]? = some y ∧ DataW.trod enc P w base spare held n f.type [v] = some y := by
  rcases open_slice ht h with h0 | ⟨a, len, cap, m, n, D, Pl, hcs, hb, hl, hm, hmm, hx, hi⟩
  · exact .inl h0
  · refine .inr ⟨a, len, cap, m, D, Pl, hcs, hb, hl, hm, hmm, by rw [hC] at hx; exact hx, fun i him => ?_⟩
    obtain ⟨cs', hc, ht'⟩ := hi i him
    rw [hC] at hc
    obtain ⟨ys, n', hn', hy, hlen, hyl, hf⟩ := DataW.trod_struct he ht'
    obtain ⟨_, hcl, hat⟩ := World.cells?_some hc
    simp only [Prod.mk.injEq] at hy
    refine ⟨ys, n', hy.1, hy.2, hyl, fun j f hj => ?_⟩
    obtain ⟨ho, hk⟩ := hone_of hone j f hj
    have hjl : j < fs.size := (Array.getElem?_eq_some_iff.1 hj).1
    have hcell := hat j hjl
    have hv : cs'[j]? = some (cs'[j]'(by omega)) := List.getElem?_eq_getElem (by omega)
    have h1 := hf j f hj
    rw [ho, hk] at h1
    have hone' : (cs'.drop j).take 1 = [cs'[j]'(by omega)] := by
      rw [List.drop_eq_getElem_cons (by omega)]
      rfl
    rw [hone'] at h1
    have hys : ys[j]? = some (ys[j]'(by omega)) := List.getElem?_eq_getElem (by omega)
    refine ⟨_, _, ?_, hys, h1.trans hys⟩
    rw [← Go.Deep.add_add, hcell, hv]
end
end Go.Proofs.Ytikcanbhdickgaa
namespace Go.Proofs.Ytikcanbhdickgaa
open Go.ChangeShapes Go.WideShapes Go.ChangeAt Go.RowKit Go.Deep

theorem add_none (b off j : Nat) : (⟨b, off, none⟩ : Addr).add j = ⟨b, off + j, none⟩ := by unfold Addr.add; split <;> simp_all
theorem bytes_of_trod {H : Type} {enc : TypeId × Value → H} {W : World} {base : Nat} {fuel : Nat} {v : Value} {y : DataW H × List MemPlace} (h : DataW.trod enc Try.prog W base (fun _ => true) true fuel 28 [v] = some y) :
    ∃ ca cs cc, v = .slice ca (List.length cs) cc ∧ BytesAt W ca cs ∧ ∀ ad, ca = some ad → ad.block < W.heap.size ∨ cs = [] := by
  rcases open_ints Try.underlying28 Try.underlying5 (by kernel_rfl) h with ⟨hcs, _⟩ | ⟨x, l, c, zs, hcs, _, hl, hm, hz, hx, hcell, hwz⟩
  · simp only [List.cons.injEq, and_true] at hcs
    subst hcs
    exact ⟨none, [], 0, rfl, bytes_empty W, fun ad e => by cases e⟩
  · simp only [List.cons.injEq, and_true] at hcs
    subst hcs
    have hz' : zs.length = c := by simpa using hz
    have h1 := in_of_row hl hm hz' hcell hwz
    obtain ⟨k1, _, _, _, k5⟩ := h1
    generalize hq : (zs.take l).map Int.toNat = cs at k1 k5
    rw [← k1]
    refine ⟨some x, _, c, rfl, k5, fun ad e => ?_⟩
    cases e
    by_cases h0 : cs = []
    · exact .inr h0
    · obtain ⟨b, o, e, hcl⟩ := k5.2.2 0 (List.length_pos_iff.2 h0)
      cases e
      exact .inl (World.block_lt_of_cell? W _ hcl)
/-- A deed that came in; an empty slice anywhere is nobody's. -/
def DeedIn (w : World) (ao : Option Addr) (k : Nat) : Prop := ∃ b off dd aa ca cs cc, ao = some ⟨b, off, none⟩ ∧ b < w.heap.size ∧ w.cell? ⟨b, off + k * 3, none⟩ = some (.int .i64 dd) ∧ w.cell? ⟨b, off + k * 3 + 1, none⟩ = some (.int .i64 aa) ∧
  w.cell? ⟨b, off + k * 3 + 2, none⟩ = some (.slice ca (List.length cs) cc) ∧ BytesAt w ca cs ∧ (∀ ad, ca = some ad → ad.block < w.heap.size ∨ cs = []) ∧ (-9223372036854775808 ≤ dd ∧ dd ≤ 9223372036854775807) ∧ (-9223372036854775808 ≤ aa ∧ aa ≤ 9223372036854775807)
theorem bytesDeed : Try.prog.bytesOf 47 = 40 := by kernel_rfl
/-- Deeds that came in: how many there can be, and each. -/
theorem deeds_in {H : Type} {enc : TypeId × Value → H} {W : World} {base : Nat} {fuel : Nat} {ao : Option Addr} {len cap : Nat} {x : DataW H × List MemPlace}
    (hw : ∀ elems spare, x.1 = .slice elems spare → (elems.length + spare.length) * Try.prog.bytesOf 47 ≤ reachBytes)
    (h : DataW.trod enc Try.prog W base (fun _ => true) true fuel 37 [.slice ao len cap] = some x) : len ≤ 3518437208883 ∧ ∀ k, k < len → DeedIn W ao k := by
  rcases open_slice_fields Try.underlying37 Try.underlying47 (by kernel_rfl) (by kernel_rfl) h with ⟨hcs, _⟩ | ⟨a, l, c, m, D, Pl, hcs, _, hl, hm, hmm, hx, hf⟩
  · simp only [List.cons.injEq, Value.slice.injEq, and_true] at hcs
    obtain ⟨rfl, rfl, rfl⟩ := hcs
    exact ⟨by omega, fun k hk => by omega⟩
  · simp only [List.cons.injEq, Value.slice.injEq, and_true] at hcs
    obtain ⟨rfl, rfl, rfl⟩ := hcs
    have h2 := hw _ _ (congrArg Prod.fst hx)
    rw [bytesDeed] at h2
    simp only [List.length_map, List.length_range, reachBytes] at h2
    simp only [if_true] at hmm
    refine ⟨by omega, fun k hk => ?_⟩
    obtain ⟨ys, n, hD, _, hyl, hfs⟩ := hf k (by omega)
    obtain ⟨v0, y0, c0, g0, t0⟩ := hfs 0 _ rfl
    obtain ⟨v1, y1, c1, g1, t1⟩ := hfs 1 _ rfl
    obtain ⟨v2, y2, c2, g2, t2⟩ := hfs 2 _ rfl
    have hsp : a.spot = none := by
      obtain ⟨_, _, _, _, _, hz⟩ := hf 0 (by omega)
      obtain ⟨_, _, cz, _, _⟩ := hz 0 _ rfl
      simpa [Addr.add] using World.cell?_spot cz
    obtain ⟨b, off, spot⟩ := a
    simp only at hsp
    subst hsp
    have hc0 : W.cell? ⟨b, off + k * 3, none⟩ = some v0 := by have := c0; rw [add_none] at this; exact this
    have hc1 : W.cell? ⟨b, off + k * 3 + 1, none⟩ = some v1 := by have := c1; rw [add_none] at this; exact this
    have hc2 : W.cell? ⟨b, off + k * 3 + 2, none⟩ = some v2 := by have := c2; rw [add_none] at this; exact this
    clear c0 c1 c2 hf hfs
    obtain ⟨dd, e0, _, wd⟩ := DataW.trod_int Try.underlying3 t0
    obtain ⟨aa, e1, _, wa⟩ := DataW.trod_int Try.underlying3 t1
    obtain rfl : v0 = .int .i64 dd := by simpa using e0
    obtain rfl : v1 = .int .i64 aa := by simpa using e1
    obtain ⟨ca, cs, cc, rfl, hby, hbl⟩ := bytes_of_trod t2
    exact ⟨b, off, dd, aa, ca, cs, cc, rfl, World.block_lt_of_cell? W _ hc0, hc0, hc1, hc2, hby, hbl, bounds_i64 wd, bounds_i64 wa⟩
/-- A deed, seen from a later world; the world in which it is read. -/
theorem deed_below {w V : World} {ao : Option Addr} {k : Nat} (h : DeedIn w ao k) (hb : Below w.heap.size w V) : ∃ b off dd aa ca cs cc, ao = some ⟨b, off, none⟩ ∧ b < w.heap.size ∧ V.cell? ⟨b, off + k * 3, none⟩ = some (.int .i64 dd) ∧ V.cell? ⟨b, off + k * 3 + 1, none⟩ = some (.int .i64 aa) ∧
    V.cell? ⟨b, off + k * 3 + 2, none⟩ = some (.slice ca (List.length cs) cc) ∧ BytesAt V ca cs ∧ (∀ ad, ca = some ad → ad.block < w.heap.size ∨ cs = []) ∧ (-9223372036854775808 ≤ dd ∧ dd ≤ 9223372036854775807) ∧ (-9223372036854775808 ≤ aa ∧ aa ≤ 9223372036854775807) := by
  obtain ⟨b, off, dd, aa, ca, cs, cc, rfl, h1, h2, h3, h4, h5, h6, h7, h8⟩ := h
  exact ⟨b, off, dd, aa, ca, cs, cc, rfl, h1, (hb.cell h1).trans h2, (hb.cell h1).trans h3, (hb.cell h1).trans h4, bytes_below h5 hb, h6, h7, h8⟩
end Go.Proofs.Ytikcanbhdickgaa

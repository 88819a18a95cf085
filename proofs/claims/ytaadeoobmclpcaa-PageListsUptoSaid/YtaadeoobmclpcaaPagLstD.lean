/- What the row of PageLists gives its walk: changes that came in. -/
import Derived.Test.YtaadeoobmclpcaaPagRowsP
import Derived.Test.YtaadeoobmclpcaaPagLstC
import Derived.Deep.Slices
import Derived.Deep.Fields
import Derived.ChangeSame
namespace Go.Proofs.Ytaadeoobmclpcaa
open Go.ChangeShapes Go.WideShapes Go.Deep

section
variable {H : Type} {enc : TypeId × Value → H} {P : Program} {w : World} {base : Nat} {spare : Nat → Bool} {held : Bool}
theorem open_slice_fields {t e : TypeId} {fs : Array Field} {fuel : Nat} {cs : List Value} {x : DataW H × List MemPlace} (ht : P.underlying t = some (.slice e)) (he : P.underlying e = some (.struct fs))
    (hone : oneCellFields P fs = true) (hC : P.cellsOf e = fs.size) (h : DataW.trod enc P w base spare held fuel t cs = some x) :
    (cs = [.slice none 0 0] ∧ x = (.nil, [])) ∨
    ∃ (a : Addr) (len cap m : Nat) (D : Nat → DataW H) (Pl : Nat → List MemPlace), cs = [.slice (some a) len cap] ∧ base ≤ a.block ∧ len ≤ cap ∧ cap ≤ maxLen ∧ m = (if spare a.block then cap else len) ∧
      x = (.slice ((List.range len).map D) ((List.range (m - len)).map fun j => D (len + j)), MemPlace.row a (m * fs.size) ++ (List.range m).flatMap Pl) ∧
      ∀ i, i < m → ∃ (ys : List (DataW H × List MemPlace)) (n : Nat), D i = .agg (ys.map (·.1)) ∧ Pl i = ys.flatMap (·.2) ∧ ys.length = fs.size ∧
        ∀ (j : Nat) (f : Field), fs[j]? = some f → ∃ (v : Value) (y : DataW H × List MemPlace), w.cell? (a.add (i * fs.size + j)) = some v ∧ ys[j]? = some y ∧ DataW.trod enc P w base spare held n f.type [v] = some y := by
  rcases open_slice ht h with h0 | ⟨a, len, cap, m, n, D, Pl, hcs, hb, hl, hm, hmm, hx, hi⟩
  · exact .inl h0
  · refine .inr ⟨a, len, cap, m, D, Pl, hcs, hb, hl, hm, hmm, by rw [hC] at hx; exact hx, fun i him => ?_⟩
    obtain ⟨cs', hc, ht'⟩ := hi i him
    rw [hC] at hc
    obtain ⟨ys, n', hn', hy, hlen, hyl, hf⟩ := DataW.trod_struct he ht'
    obtain ⟨_, hcl, hat⟩ := World.cells?_some hc
    simp only [Prod.mk.injEq] at hy
    refine ⟨ys, n', hy.1, hy.2, hyl, fun j f hj => ?_⟩
    obtain ⟨ho, hk⟩ := hone_of hone j f hj
    have hjl : j < fs.size := (Array.getElem?_eq_some_iff.1 hj).1
    have hcell := hat j hjl
    have hv : cs'[j]? = some (cs'[j]'(by omega)) := List.getElem?_eq_getElem (by omega)
    have h1 := hf j f hj
    rw [ho, hk] at h1
    have hone' : (cs'.drop j).take 1 = [cs'[j]'(by omega)] := by
      rw [List.drop_eq_getElem_cons (by omega)]
      rfl
    rw [hone'] at h1
    have hys : ys[j]? = some (ys[j]'(by omega)) := List.getElem?_eq_getElem (by omega)
    refine ⟨_, _, ?_, hys, h1.trans hys⟩
    rw [← Go.Deep.add_add, hcell, hv]
end
end Go.Proofs.Ytaadeoobmclpcaa
namespace Go.Proofs.Ytaadeoobmclpcaa.bulks
theorem one_le {H : Type} (d : DataW H) : 1 ≤ Rows.uptoBulk d := by
  cases d with
  | lit l => cases l <;> simp [Rows.uptoBulk]
  | nil => simp [Rows.uptoBulk]
  | ptr d => simp [Rows.uptoBulk]
  | slice elems spare => simp [Rows.uptoBulk]
  | agg parts => simp [Rows.uptoBulk]
  | iface t d => simp [Rows.uptoBulk]
  | map entries => simp [Rows.uptoBulk]
  | held h => simp [Rows.uptoBulk]

/-- a part's bulk is at most the whole's -/
theorem part_le {H : Type} {d : DataW H} {l : List (DataW H)} (h : d ∈ l) : Rows.uptoBulk d ≤ Rows.uptoBulkAll l := by
  induction l with
  | nil => cases h
  | cons x r ih =>
    simp only [Rows.uptoBulkAll]
    cases List.mem_cons.1 h with
    | inl e => subst e; omega
    | inr e => have := ih e; omega

theorem append {H : Type} (l r : List (DataW H)) : Rows.uptoBulkAll (l ++ r) = Rows.uptoBulkAll l + Rows.uptoBulkAll r := by
  induction l with
  | nil => simp [Rows.uptoBulkAll]
  | cons x l ih => simp only [List.cons_append, Rows.uptoBulkAll, ih]; omega

/-- so many values at the most -/
theorem length_le {H : Type} (l : List (DataW H)) : l.length ≤ Rows.uptoBulkAll l := by
  induction l with
  | nil => simp [Rows.uptoBulkAll]
  | cons x r ih => have := one_le x; simp only [Rows.uptoBulkAll, List.length_cons]; omega

/-- a slice's places, and what they hold -/
theorem slice_le {H : Type} (elems spare : List (DataW H)) : elems.length + spare.length + 1 ≤ Rows.uptoBulk (.slice elems spare) := by
  have h1 := length_le elems
  have h2 := length_le spare
  simp only [Rows.uptoBulk]
  omega
theorem slice_elems {H : Type} (elems spare : List (DataW H)) : Rows.uptoBulkAll elems + 1 ≤ Rows.uptoBulk (.slice elems spare) := by
  simp only [Rows.uptoBulk]
  omega

/-- a string's letters -/
theorem string_eq {H : Type} (bytes : List UInt8) : Rows.uptoBulk (DataW.lit (H := H) (.string bytes)) = bytes.length + 1 := by
  simp [Rows.uptoBulk]

/-- THE BOUND, as the builder hands it over ('hk') -/
theorem bound {H : Type} {l : List (DataW H)} (hk : Rows.uptoSmall H l = true) : Rows.uptoBulkAll l ≤ 1048576 := by
  simpa [Rows.uptoSmall] using hk

end Go.Proofs.Ytaadeoobmclpcaa.bulks
namespace Go.Proofs.Ytaadeoobmclpcaa
open Go.ChangeShapes Go.WideShapes Go.ChangeAt Go.RowKit Go.Deep

theorem add_none (b off j : Nat) : (⟨b, off, none⟩ : Addr).add j = ⟨b, off + j, none⟩ := by unfold Addr.add; split <;> simp_all
/-- A slice of bytes within what came in, of a bulk at most K. -/
theorem in_of_trod {H : Type} {enc : TypeId × Value → H} {W : World} {base : Nat} {fuel : Nat} {v : Value} {y : DataW H × List MemPlace} {K : Nat} (hK : K ≤ 140737488351232) (h : DataW.trod enc Try.prog W base (fun _ => true) true fuel 24 [v] = some y) (hb : Rows.uptoBulk y.1 ≤ K) :
    ∃ ca cs cc, v = .slice ca (List.length cs) cc ∧ In W ca cc cs := by
  rcases open_ints Try.underlying24 Try.underlying5 (by kernel_rfl) h with ⟨hcs, _⟩ | ⟨x, l, c, zs, hcs, _, hl, hm, hz, hx, hcell, hwz⟩
  · simp only [List.cons.injEq, and_true] at hcs
    subst hcs
    exact ⟨none, [], 0, rfl, bytes_empty W, fun _ => rfl, Nat.zero_le _⟩
  · simp only [List.cons.injEq, and_true] at hcs
    subst hcs
    have hz' : zs.length = c := by simpa using hz
    have h1 := in_of_row hl hm hz' hcell hwz
    have hd : y.1 = .slice (lits .u8 (zs.take l)) (lits .u8 (zs.drop l)) := congrArg Prod.fst hx
    have h2 := bulks.slice_le (H := H) (lits .u8 (zs.take l)) (lits .u8 (zs.drop l))
    rw [← hd] at h2
    simp only [lits, List.length_map, List.length_take, List.length_drop] at h2
    obtain ⟨k1, _, _, _, k5⟩ := h1
    rw [← k1]
    exact ⟨some x, _, c, rfl, k5, (fun h => by cases h), by rw [k1]; omega⟩
/-- Changes that came in. -/
theorem deeds_of_trod {H : Type} {enc : TypeId × Value → H} {W : World} {base : Nat} {fuel : Nat} {ao : Option Addr} {len cap : Nat} {x : DataW H × List MemPlace} (hsm : Rows.uptoBulk x.1 ≤ 1048576)
    (h : DataW.trod enc Try.prog W base (fun _ => true) true fuel 22 [.slice ao len cap] = some x) : len ≤ 1048576 ∧ ∀ k, k < len → DeedAt W ao k := by
  rcases open_slice_fields Try.underlying22 Try.underlying30 (by kernel_rfl) (by kernel_rfl) h with ⟨hcs, _⟩ | ⟨a, l, c, m, D, Pl, hcs, _, hl, hm, hmm, hx, hf⟩
  · simp only [List.cons.injEq, Value.slice.injEq, and_true] at hcs
    obtain ⟨rfl, rfl, rfl⟩ := hcs
    exact ⟨by omega, fun k hk => by omega⟩
  · simp only [List.cons.injEq, Value.slice.injEq, and_true] at hcs
    obtain ⟨rfl, rfl, rfl⟩ := hcs
    have hx1 : x.1 = .slice ((List.range len).map D) ((List.range (m - len)).map fun j => D (len + j)) := congrArg Prod.fst hx
    have h2 := bulks.slice_le (H := H) ((List.range len).map D) ((List.range (m - len)).map fun j => D (len + j))
    have h3 := bulks.slice_elems (H := H) ((List.range len).map D) ((List.range (m - len)).map fun j => D (len + j))
    rw [← hx1] at h2 h3
    simp only [List.length_map, List.length_range] at h2
    simp only [if_true] at hmm
    refine ⟨by omega, fun k hk => ?_⟩
    obtain ⟨ys, n, hD, _, hyl, hfs⟩ := hf k (by omega)
    obtain ⟨v0, y0, c0, g0, t0⟩ := hfs 0 _ rfl
    obtain ⟨v1, y1, c1, g1, t1⟩ := hfs 1 _ rfl
    obtain ⟨v2, y2, c2, g2, t2⟩ := hfs 2 _ rfl
    have hsp : a.spot = none := by
      obtain ⟨_, _, _, _, _, hz⟩ := hf 0 (by omega)
      obtain ⟨_, _, cz, _, _⟩ := hz 0 _ rfl
      simpa [Addr.add] using World.cell?_spot cz
    obtain ⟨b, off, spot⟩ := a
    simp only at hsp
    subst hsp
    have hc0 : W.cell? ⟨b, off + k * 3, none⟩ = some v0 := by have := c0; rw [add_none] at this; exact this
    have hc1 : W.cell? ⟨b, off + k * 3 + 1, none⟩ = some v1 := by have := c1; rw [add_none] at this; exact this
    have hc2 : W.cell? ⟨b, off + k * 3 + 2, none⟩ = some v2 := by have := c2; rw [add_none] at this; exact this
    clear c0 c1 c2 hf hfs
    have hD2 : Rows.uptoBulk y2.1 ≤ Rows.uptoBulk (D k) := by
      rw [hD]
      have : y2.1 ∈ ys.map (·.1) := List.mem_map.2 ⟨y2, List.mem_of_getElem? g2, rfl⟩
      have := bulks.part_le this
      simp only [Rows.uptoBulk]
      omega
    have hDk : Rows.uptoBulk (D k) ≤ Rows.uptoBulkAll ((List.range len).map D) := bulks.part_le (List.mem_map.2 ⟨k, List.mem_range.2 hk, rfl⟩)
    obtain ⟨dd, e0, _, wd⟩ := DataW.trod_int Try.underlying3 t0
    obtain ⟨aa, e1, _, wa⟩ := DataW.trod_int Try.underlying3 t1
    obtain rfl : v0 = .int .i64 dd := by simpa using e0
    obtain rfl : v1 = .int .i64 aa := by simpa using e1
    obtain ⟨ca, cs, cc, rfl, hin⟩ := in_of_trod (K := 1048576) (by decide) t2 (by omega)
    have b1 := bounds_i64 wd
    have b2 := bounds_i64 wa
    exact ⟨b, off, dd, aa, ca, cs, cc, rfl, World.block_lt_of_cell? W _ hc0, hc0, hc1, hc2, hin, b2.1, b2.2, b1.1, b1.2⟩
end Go.Proofs.Ytaadeoobmclpcaa

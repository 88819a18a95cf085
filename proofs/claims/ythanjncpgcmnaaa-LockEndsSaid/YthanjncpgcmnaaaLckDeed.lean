/- Deeds that came in. -/
import Derived.Test.YthanjncpgcmnaaaLckOps
import Derived.Test.YthanjncpgcmnaaaLckRows
import Derived.Deep.Slices
import Derived.Deep.Fields
namespace Go.Proofs.Ythanjncpgcmnaaa
open Go.ChangeShapes Go.WideShapes Go.ChangeAt Go.RowKit Go.Deep

section
variable {H : Type} {enc : TypeId × Value → H} {P : Program} {w : World} {base : Nat} {spare : Nat → Bool} {held : Bool}
theorem open_slice_fields {t e : TypeId} {fs : Array Field} {fuel : Nat} {cs : List Value} {x : DataW H × List MemPlace} (ht : P.underlying t = some (.slice e)) (he : P.underlying e = some (.struct fs))
    (hone : oneCellFields P fs = true) (hC : P.cellsOf e = fs.size) (h : DataW.trod enc P w base spare held fuel t cs = some x) :
    (cs = [.slice none 0 0] ∧ x = (.nil, [])) ∨
    ∃ (a : Addr) (len cap m : Nat) (D : Nat → DataW H) (Pl : Nat → List MemPlace), cs = [.slice (some a) len cap] ∧ base ≤ a.block ∧ len ≤ cap ∧ cap ≤ maxLen ∧ m = (if spare a.block then cap else len) ∧
      x = (.slice ((List.range len).map D) ((List.range (m - len)).map fun j => D (len + j)), MemPlace.row a (m * fs.size) ++ (List.range m).flatMap Pl) ∧
      ∀ i, i < m → ∃ (ys : List (DataW H × List MemPlace)) (n : Nat), D i = .agg (ys.map (·.1)) ∧ Pl i = ys.flatMap (·.2) ∧ ys.length = fs.size ∧
        ∀ (j : Nat) (f : Field), fs[j]? = some f → ∃ (v : Value) (y : DataW H × List MemPlace), w.cell? (a.add (i * fs.size + j)) = some v ∧ ys[j]? = some y ∧ DataW.trod enc P w base spare held n f.type [v] = some y := by
  rcases open_slice ht h with h0 | ⟨a, len, cap, m, n, D, Pl, hcs, hb, hl, hm, hmm, hx, hi⟩
  · exact .inl h0
  · refine .inr ⟨a, len, cap, m, D, Pl, hcs, hb, hl, hm, hmm, by rw [hC] at hx; exact hx, fun i him => ?_⟩
    obtain ⟨cs', hc, ht'⟩ := hi i him
    rw [hC] at hc
    obtain ⟨ys, n', hn', hy, hlen, hyl, hf⟩ := DataW.trod_struct he ht'
    obtain ⟨_, hcl, hat⟩ := World.cells?_some hc
    simp only [Prod.mk.injEq] at hy
    refine ⟨ys, n', hy.1, hy.2, hyl, fun j f hj => ?_⟩
    obtain ⟨ho, hk⟩ := hone_of hone j f hj
    have hjl : j < fs.size := (Array.getElem?_eq_some_iff.1 hj).1
    have hcell := hat j hjl
    have hv : cs'[j]? = some (cs'[j]'(by omega)) := List.getElem?_eq_getElem (by omega)
    have h1 := hf j f hj
    rw [ho, hk] at h1
    have hone' : (cs'.drop j).take 1 = [cs'[j]'(by omega)] := by
      rw [List.drop_eq_getElem_cons (by omega)]
      rfl
    rw [hone'] at h1
    have hys : ys[j]? = some (ys[j]'(by omega)) := List.getElem?_eq_getElem (by omega)
    refine ⟨_, _, ?_, hys, h1.trans hys⟩
    rw [← Go.Deep.add_add, hcell, hv]
end


theorem bytesDeed : Try.prog.bytesOf 45 = 40 := by kernel_rfl
/-- A deed that came in. -/
structure DeedAt (w : World) (b off : Nat) (dd : Int) (oo : Nat) (nm : ByteArray) (mm : Int) : Prop where
  lt : b < w.heap.size
  c0 : w.cell? ⟨b, off, none⟩ = some (.int .i64 dd)
  c1 : w.cell? ⟨b, off + 1, none⟩ = some (.int .u64 (oo : Int))
  c2 : w.cell? ⟨b, off + 2, none⟩ = some (.string nm)
  c3 : w.cell? ⟨b, off + 3, none⟩ = some (.int .i64 mm)
  top : oo < top
  size : nm.size ≤ maxLen
  rd : -9223372036854775808 ≤ dd ∧ dd ≤ 9223372036854775807
  rm : -9223372036854775808 ≤ mm ∧ mm ≤ 9223372036854775807
def DeedIn (w : World) (ao : Option Addr) (k : Nat) : Prop := ∃ b off dd oo nm mm, ao = some ⟨b, off, none⟩ ∧ DeedAt w b (off + k * 4) dd oo nm mm
theorem deed_below {w V : World} {b off oo : Nat} {dd mm : Int} {nm : ByteArray} (h : DeedAt w b off dd oo nm mm) (hb : Below w.heap.size w V) : DeedAt V b off dd oo nm mm :=
  ⟨Nat.lt_of_lt_of_le h.lt hb.size, (hb.cell h.lt).trans h.c0, (hb.cell h.lt).trans h.c1, (hb.cell h.lt).trans h.c2, (hb.cell h.lt).trans h.c3, h.top, h.size, h.rd, h.rm⟩
/-- Deeds that came in: how many there can be, and each. -/
theorem deeds_in {H : Type} {enc : TypeId × Value → H} {W : World} {base : Nat} {fuel : Nat} {ao : Option Addr} {len cap : Nat} {x : DataW H × List MemPlace}
    (hw : ∀ elems spare, x.1 = .slice elems spare → (elems.length + spare.length) * Try.prog.bytesOf 45 ≤ reachBytes)
    (h : DataW.trod enc Try.prog W base (fun _ => true) true fuel 40 [.slice ao len cap] = some x) : len ≤ 3518437208883 ∧ ∀ k, k < len → DeedIn W ao k := by
  rcases open_slice_fields Try.underlying40 Try.underlying45 (by kernel_rfl) (by kernel_rfl) h with ⟨hcs, _⟩ | ⟨a, l, c, m, D, Pl, hcs, _, hl, hm, hmm, hx, hf⟩
  · simp only [List.cons.injEq, Value.slice.injEq, and_true] at hcs
    obtain ⟨rfl, rfl, rfl⟩ := hcs
    exact ⟨by omega, fun k hk => by omega⟩
  · simp only [List.cons.injEq, Value.slice.injEq, and_true] at hcs
    obtain ⟨rfl, rfl, rfl⟩ := hcs
    have h2 := hw _ _ (congrArg Prod.fst hx)
    rw [bytesDeed] at h2
    simp only [List.length_map, List.length_range, reachBytes] at h2
    simp only [if_true] at hmm
    refine ⟨by omega, fun k hk => ?_⟩
    obtain ⟨ys, n, hD, _, hyl, hfs⟩ := hf k (by omega)
    obtain ⟨v0, y0, c0, g0, t0⟩ := hfs 0 _ rfl
    obtain ⟨v1, y1, c1, g1, t1⟩ := hfs 1 _ rfl
    obtain ⟨v2, y2, c2, g2, t2⟩ := hfs 2 _ rfl
    obtain ⟨v3, y3, c3, g3, t3⟩ := hfs 3 _ rfl
    have hsp : a.spot = none := by
      obtain ⟨_, _, _, _, _, hz⟩ := hf 0 (by omega)
      obtain ⟨_, _, cz, _, _⟩ := hz 0 _ rfl
      simpa [Addr.add] using World.cell?_spot cz
    obtain ⟨b, off, spot⟩ := a
    simp only at hsp
    subst hsp
    have hc0 : W.cell? ⟨b, off + k * 4, none⟩ = some v0 := by have := c0; rw [addr_add] at this; exact this
    have hc1 : W.cell? ⟨b, off + k * 4 + 1, none⟩ = some v1 := by have := c1; rw [addr_add] at this; exact this
    have hc2 : W.cell? ⟨b, off + k * 4 + 2, none⟩ = some v2 := by have := c2; rw [addr_add] at this; exact this
    have hc3 : W.cell? ⟨b, off + k * 4 + 3, none⟩ = some v3 := by have := c3; rw [addr_add] at this; exact this
    clear c0 c1 c2 c3 hf hfs
    obtain ⟨dd, e0, _, wd⟩ := DataW.trod_int Try.underlying3 t0
    obtain ⟨oo, e1, _, wo⟩ := DataW.trod_int Try.underlying27 t1
    obtain ⟨nm, e2, _, wn⟩ := DataW.trod_string Try.underlying9 t2
    obtain ⟨mm, e3, _, wm⟩ := DataW.trod_int Try.underlying3 t3
    obtain rfl : v0 = .int .i64 dd := by simpa using e0
    obtain rfl : v1 = .int .u64 oo := by simpa using e1
    obtain rfl : v2 = .string nm := by simpa using e2
    obtain rfl : v3 = .int .i64 mm := by simpa using e3
    have hob := bounds_u64 wo
    obtain ⟨o', rfl⟩ : ∃ o' : Nat, oo = (o' : Int) := ⟨oo.toNat, by omega⟩
    exact ⟨b, off, dd, o', nm, mm, rfl, World.block_lt_of_cell? W _ hc0, hc0, hc1, hc2, hc3, by unfold Go.Proofs.Ythanjncpgcmnaaa.top; omega, wn, bounds_i64 wd, bounds_i64 wm⟩
end Go.Proofs.Ythanjncpgcmnaaa

/- A good page is sealed: a contract. -/
import Derived.Test.YtaadeoobmclpcaaPagSeal
namespace Go.Proofs.Ytaadeoobmclpcaa
open Go.ChangeShapes Go.WideShapes Go.ChangeAt Go.RowKit

theorem info5 : (Try.prog.info? 5).map (fun i => (i.zero, i.size, i.bytes)) = some (some (.int .u8 0), 1, 1) := by kernel_rfl
def u8s (zs : List Nat) : List Value := zs.map fun z : Nat => Value.int .u8 (z : Int)
theorem u8s_one (zs : List Nat) : ∀ u ∈ u8s zs, u.oneCell' = true := by
  intro u hu
  simp only [u8s, List.mem_map] at hu
  obtain ⟨z, _, rfl⟩ := hu
  rfl
theorem bytes_cells {w : World} {ad : Addr} {zs : List Nat} (hb : BytesAt w (some ad) zs) : ∀ j u, (u8s zs)[j]? = some u → w.cell? (ad.add j) = some u := by
  intro j u hu
  simp only [u8s, List.getElem?_map, Option.map_eq_some_iff] at hu
  obtain ⟨z, hz, rfl⟩ := hu
  obtain ⟨h', rfl⟩ := List.getElem?_eq_some_iff.1 hz
  obtain ⟨b, off, e, hc⟩ := hb.2.2 j h'
  simp only [Option.some.injEq] at e
  subst e
  rw [Addr.add]
  split
  · rename_i h0
    have h0' : j = 0 := by simpa using h0
    subst h0'
    simpa using hc
  · exact hc
theorem own_cells {w : World} {B g n : Nat} {zs : List Nat} (h : w.ownsRow B 5 1 (.slice (some ⟨g, 0, none⟩) n n) n (u8s zs)) : Cells w g 5 (u8c zs) := by
  rcases h.2 with ⟨h', _⟩ | ⟨g', cap', cur, h', _, hg, _, _, hcs, htake⟩
  · simp at h'
  · simp only [Value.slice.injEq, Option.some.injEq, Addr.mk.injEq, and_true, true_and] at h'
    obtain ⟨rfl, rfl⟩ := h'
    rw [List.take_of_length_le (by simp; omega)] at htake
    have e : cur = u8c zs := by
      rw [← Array.toArray_toList (xs := cur), htake]; rfl
    rw [← e]
    exact hg
theorem bytes_drop {w : World} {g : Nat} {zs : List Nat} (h : BytesAt w (some ⟨g, 0, none⟩) zs) (k : Nat) : BytesAt w (some ⟨g, k, none⟩) (zs.drop k) :=
  ⟨fun c hc => h.1 c (List.mem_of_mem_drop hc), Nat.le_trans (by simp) h.2.1, fun j hj => by
    have hj' : k + j < zs.length := by simp at hj; omega
    obtain ⟨b, off, e, hc⟩ := h.2.2 (k + j) hj'
    cases e
    refine ⟨g, k, rfl, ?_⟩
    rw [List.getElem_drop, ← hc, Nat.zero_add]⟩

/-- A page with another LSN and the right sum. -/
def sealed (p : List Nat) (x : Nat) : List Nat :=
  wr (wr p { hdOf p with lsn := x }) { hdOf p with lsn := x, sum := more 0 ((wr p { hdOf p with lsn := x }).drop 4) }
theorem hdOf_fits {p : List Nat} (hz : ∀ c ∈ p, c < 256) (hl : 26 ≤ p.length) : (hdOf p).Fits :=
  ⟨rd4 hz 0 (by omega), rd4 hz 18 (by omega), rd4 hz 22 (by omega), rd8 hz 4 (by omega), by
    show p.getD 12 0 < 256
    rw [List.getD_eq_getElem?_getD, List.getElem?_eq_getElem (by omega)]; exact hz _ (List.getElem_mem _), by
    show p.getD 13 0 < 256
    rw [List.getD_eq_getElem?_getD, List.getElem?_eq_getElem (by omega)]; exact hz _ (List.getElem_mem _), rd2 hz 14 (by omega), rd2 hz 16 (by omega)⟩
theorem set_bytes {p : List Nat} (hz : ∀ c ∈ p, c < 256) (j c : Nat) (hc : c < 256) : ∀ d ∈ p.set j c, d < 256 := fun d hd => by
  rcases List.mem_or_eq_of_mem_set hd with h | h
  · exact hz d h
  · rw [h]; exact hc
theorem wr_bytes {p : List Nat} (hz : ∀ c ∈ p, c < 256) {h : Hd} (hF : h.Fits) : ∀ c ∈ wr p h, c < 256 :=
  lay_bytes _ _ (lay_bytes _ _ (lay_bytes _ _ (lay_bytes _ _ (set_bytes (set_bytes (lay_bytes _ _ (lay_bytes _ _ hz _) _) _ _ hF.2.2.2.2.1) _ _ hF.2.2.2.2.2.1) _) _) _) _
/-- What an answer that is a page says: new memory. -/
def PageOut (w : World) (l : List Nat) (e : Ending) (w' : World) : Prop :=
  ∃ g, e = .returned (.tuple #[.slice (some ⟨g, 0, none⟩) 512 512, .int .i64 0]) ∧ Cells w' g 5 (u8c l) ∧ w.heap.size ≤ g ∧ Below w.heap.size w w'

theorem cells_grown {w w' : World} {g : Nat} {row : Option Nat} {t : TypeId} {cs : Array Value} (h : Cells w g t cs) (hw : w.grownBy w' row) (hne : some g ≠ row) : Cells w' g t cs := by
  unfold Cells
  rw [hw.block g (Array.getElem?_eq_some_iff.1 h).1 hne]
  exact h

end Go.Proofs.Ytaadeoobmclpcaa

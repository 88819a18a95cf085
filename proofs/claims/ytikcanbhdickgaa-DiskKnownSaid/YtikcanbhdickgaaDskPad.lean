/- Bytes that came in, with noughts behind them, to a page's length; deeds; a law's own slices. -/
import Derived.Test.YtikcanbhdickgaaDskZeros
import Derived.Test.YtikcanbhdickgaaDskDeed
namespace Go.Proofs.Ytikcanbhdickgaa
open Go.ChangeShapes Go.WideShapes Go.ChangeAt Go.RowKit

/-- What came in, and noughts behind: 512 bytes. -/
def padz (l : List Nat) : List Nat := (l ++ List.replicate 512 0).take 512
theorem padz_len (l : List Nat) : (padz l).length = 512 := by unfold padz; rw [List.length_take, List.length_append, List.length_replicate]; omega
theorem padz_byte {l : List Nat} (h : ∀ c ∈ l, c < 256) : ∀ c ∈ padz l, c < 256 := by
  intro c hc
  have := List.mem_of_mem_take hc
  rcases List.mem_append.1 this with h1 | h1
  · exact h c h1
  · rw [List.mem_replicate] at h1; omega
theorem padz_cells (l : List Nat) : ([] ++ u8s l ++ u8s (List.replicate 512 0)).take 512 = u8s (padz l) := by
  rw [padz, List.nil_append, ← u8s_append]
  simp only [u8s, List.map_take]
theorem bytes_same' {w w' : World} {b off : Nat} {l : List Nat} (h : BytesAt w (some ⟨b, off, none⟩) l) (hk : w'.heap[b]? = w.heap[b]?) : BytesAt w' (some ⟨b, off, none⟩) l :=
  ⟨h.1, h.2.1, fun j hj => by
    obtain ⟨b', o', e, hc⟩ := h.2.2 j hj
    cases e
    exact ⟨b, off, rfl, by rw [World.cell?_of_block (a := ⟨b, off + j, none⟩) hk]; exact hc⟩⟩
theorem padz_slc {w : World} {bo : Option Nat} {ao : Option Addr} {r cap : Nat} {l : List Nat} (h : Slc w bo 1 (.slice ao r cap) r ([] ++ u8s l ++ u8s (List.replicate 512 0))) (hr : l.length + 512 = r) :
    ∃ b off, bo = some b ∧ ao = some ⟨b, off, none⟩ ∧ (∀ V, (Instr.slice 28 (.slice (some ⟨b, off, none⟩) r cap) none (some (.int .i64 512)) none).run Try.prog V = .ok (.slice (some ⟨b, off, none⟩) 512 cap) V) ∧ Slc w (some b) 1 (.slice (some ⟨b, off, none⟩) 512 cap) 512 (u8s (padz l)) ∧ 512 ≤ cap ∧ cap ≤ maxLen := by
  obtain ⟨ao', cap', e, h1, h2, _, h3⟩ := slc_form h
  cases e
  obtain ⟨b, off, rfl, rfl⟩ := h3 (by omega)
  obtain ⟨hr1, hu1⟩ := slc_upto (j := 512) h (by omega)
  rw [padz_cells] at hu1
  exact ⟨b, off, rfl, rfl, hr1, hu1, by omega, h2⟩
/-- A new slice that was appended to is a new slice. -/
theorem own_slc {w wa wb : World} {bo bo' : Option Nat} (h : Below w.heap.size w wa) (hn : ∀ k, bo = some k → w.heap.size ≤ k) (ht : Turned (fun k => bo = some k) wa wb) (ho : bo' = bo ∨ bo' = some wa.heap.size) :
    Below w.heap.size w wb ∧ ∀ k, bo' = some k → w.heap.size ≤ k := by
  refine ⟨Turned.to_below h ht hn h.size, fun k e => ?_⟩
  rcases ho with h1 | h1
  · exact hn k (h1 ▸ e)
  · rw [h1] at e; cases e; exact h.size
theorem own_fresh (w : World) : ∀ k, some w.heap.size = some k → w.heap.size ≤ k := fun k e => by cases e; exact Nat.le_refl _
/-- One block is apart. -/
def One (b k : Nat) : Prop := k = b
theorem live_one {w0 w w' : World} {S : Dsk} {g b : Nat} (h : Live w0 w S g Nil) (hb : Below w.heap.size w w') (h1 : w.heap.size ≤ b) (h2 : b < w'.heap.size) : Live w0 w' S g (One b) := live_mono (live_below h hb) (fun k hk => by cases hk; exact .inr ⟨h1, h2⟩)
/-- A new slice of constant bytes. -/
theorem const_bytes (w : World) (l : List Nat) (hz : ∀ c ∈ l, c < 256) (hm : l.length ≤ maxLen) : BytesAt (w.alloc (.cells (u8c l) 5)) (some ⟨w.heap.size, 0, none⟩) l := bytes_alloc w l hz hm (0, 0)
theorem chose_one : chose [1] 0 = 1 := rfl
theorem left_one {S : Dsk} {y : Nat × List Nat} (hw : S.wait = [y]) (ht : S.torn = none) : (leftOf [1] S).pages = S.pages := by
  unfold leftOf tornPages
  rw [ht, hw]
  rfl
end Go.Proofs.Ytikcanbhdickgaa

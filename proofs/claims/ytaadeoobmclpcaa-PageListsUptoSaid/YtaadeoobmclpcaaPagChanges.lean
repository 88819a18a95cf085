/- Cells laid in, taken out, replaced, byte by byte: the walk of the law. -/
import Derived.Test.YtaadeoobmclpcaaPagRefMath
import Derived.Test.YtaadeoobmclpcaaPagReplace
import Derived.Test.YtaadeoobmclpcaaPagCompact
import Derived.Test.YtaadeoobmclpcaaPagAwake
import Derived.Test.YtaadeoobmclpcaaPagLays
import Derived.Laws.IdiomStrings
namespace Go.Proofs.Ytaadeoobmclpcaa
open Go.ChangeShapes Go.WideShapes Go.ChangeAt Go.RowKit

theorem conv_any {w : World} {a : Option Addr} {zs : List Nat} {k : Nat} (hb : BytesAt w a zs) (hk : zs.length = k) (cap : Nat) : (convert 24 9 (.slice a k cap)).run Try.prog w = .ok (.string (str zs)) w := by
  subst hk
  cases a with
  | none =>
    obtain rfl : zs = [] := by
      cases zs with
      | nil => rfl
      | cons x l =>
        obtain ⟨b, o, e, _⟩ := hb.2.2 0 (by simp)
        cases e
    exact run_convert_bytes_nil w 24 5 Try.underlying24 Try.underlying5 _ _ 9 Try.underlying9
  | some ad => exact conv_bytes hb cap
attribute [local irreducible] str
/-- An answer that is these bytes, and this number. -/
def Tells (w : World) (R : List Nat) (k : Nat) (n : Int) (e : Ending) (w' : World) : Prop := ∃ a c, e = .returned (.tuple #[.slice a k c, .int .i64 n]) ∧ R.length = k ∧ BytesAt w' a R ∧ Below w.heap.size w w'
/-- An answer that is these bytes, and whether there was room. -/
def Fits (w : World) (R : List Nat) (k : Nat) (b : Bool) (e : Ending) (w' : World) : Prop := ∃ a c, e = .returned (.tuple #[.slice a k c, .bool b]) ∧ R.length = k ∧ BytesAt w' a R ∧ Below w.heap.size w w'
theorem bytes_empty (w : World) : BytesAt w none [] := ⟨fun c hc => (by cases hc), Nat.zero_le _, fun j hj => absurd hj (Nat.not_lt_zero _)⟩
theorem tells_page {w : World} {R : List Nat} {e : Ending} {w' : World} (hl : R.length = 512) (hz : ∀ c ∈ R, c < 256) (h : PageOut w R e w') : Tells w R 512 0 e w' := by
  obtain ⟨g, rfl, hc, _, hb⟩ := h
  exact ⟨_, _, rfl, hl, cells_bytes hc hz (page_len hl), hb⟩
theorem tells_no {w : World} (n : Int) {e : Ending} {w' : World} (h : e = .returned (.tuple #[.slice none 0 0, .int .i64 n]) ∧ Below w.heap.size w w') : Tells w [] 0 n e w' := by
  obtain ⟨rfl, hb⟩ := h
  exact ⟨_, _, rfl, rfl, bytes_empty w', hb⟩
theorem fits_page {w : World} {R : List Nat} {e : Ending} {w' : World} (hl : R.length = 512) (hz : ∀ c ∈ R, c < 256) (h : InsOut w R e w') : Fits w R 512 true e w' := by
  obtain ⟨g, c, rfl, hc, _, hb⟩ := h
  exact ⟨_, _, rfl, hl, has_bytes hc hz (page_len hl), hb⟩
theorem fits_no {w : World} {e : Ending} {w' : World} (h : e = .returned (.tuple #[.slice none 0 0, .bool false]) ∧ Below w.heap.size w w') : Fits w [] 0 false e w' := by
  obtain ⟨rfl, hb⟩ := h
  exact ⟨_, _, rfl, rfl, bytes_empty w', hb⟩
theorem removed_bytes {zs : List Nat} (hz : ∀ c ∈ zs, c < 256) (hg : Good zs) {i : Nat} (hi : i < rd zs 14 2) : ∀ c ∈ removed zs i, c < 256 := by
  have hl := hg.1
  have h1 := hg.2.2.1
  have h2 := hg.2.2.2.1
  have hF := hdOf_fits hz (by omega : 26 ≤ zs.length)
  rw [← removed_eq]
  refine wr_bytes (lay_bytes _ _ (splice_bytes hz (fun c h => hz c (List.mem_of_mem_drop (List.mem_of_mem_take h))) _) _) ⟨hF.1, hF.2.1, hF.2.2.1, hF.2.2.2.1, hF.2.2.2.2.1, hF.2.2.2.2.2.1, by show rd zs 14 2 - 1 < 65536; omega, ?_⟩
  show (if rd zs 14 2 = 1 then 512 else rd zs 16 2) < 65536
  split <;> omega
theorem repOf_bytes {zs cs : List Nat} (hz : ∀ c ∈ zs, c < 256) (hg : Good zs) (hc : ∀ c ∈ cs, c < 256) {i : Nat} (hi : i < rd zs 14 2) : ∀ c ∈ repOf zs i cs, c < 256 := by
  have hl := hg.1
  have h1 := hg.2.2.1
  have h2 := hg.2.2.2.1
  have hF := hdOf_fits hz (by omega : 26 ≤ zs.length)
  have hz1 := slotSet_bytes hz i (rd zs 16 2) 0
  rw [repOf]
  by_cases h : cs.length ≤ rd zs (28 + 4 * i) 2
  · rw [if_pos h, repIn]
    exact slotSet_bytes (splice_bytes hz hc _) _ _ _
  · rw [if_neg h]
    by_cases h' : 26 + 4 * rd zs 14 2 + cs.length ≤ rd zs 16 2
    · rw [if_pos h']
      exact pushed_bytes hz1 hc ⟨hF.1, hF.2.1, hF.2.2.1, hF.2.2.2.1, hF.2.2.2.2.1, hF.2.2.2.2.2.1, hF.2.2.2.2.2.2.1, by show rd zs 16 2 - cs.length < 65536; omega⟩
    · rw [if_neg h']
      refine pushed_bytes ?_ hc ⟨hF.1, hF.2.1, hF.2.2.1, hF.2.2.2.1, hF.2.2.2.2.1, hF.2.2.2.2.2.1, hF.2.2.2.2.2.2.1, by show 512 - _ - cs.length < 65536; omega⟩
      rw [← repZ_relaid hz hg hi]
      exact (repZ_comp hz hg hi).byte
end Go.Proofs.Ytaadeoobmclpcaa
namespace Go.Proofs.Ytaadeoobmclpcaa
open Go.ChangeShapes Go.WideShapes Go.ChangeAt Go.RowKit

end Go.Proofs.Ytaadeoobmclpcaa

/- Bytes as a text; rows that are kept: small facts. -/
import Derived.Test.YtflepcoiidaekaaDoorSumRef
import Derived.Laws.BytesArg
import Derived.Laws.IdiomStrings
namespace Go.Proofs.YtflepcoiidaekaaDoor
open Go.ChangeShapes Go.WideShapes Go.ChangeAt Go.RowKit

/-- The text of these bytes. -/
def str (zs : List Nat) : ByteArray := ⟨(zs.map UInt8.ofNat).toArray⟩
theorem conv_bytes {w : World} {a : Option Addr} {zs : List Nat} (hb : BytesAt w a zs) (ha : a = none → zs = []) (cap : Nat) :
    (convert 27 9 (.slice a zs.length cap)).run Tryd.prog w = .ok (.string (str zs)) w := by
  cases a with
  | none =>
    obtain rfl := ha rfl
    exact run_convert_bytes_nil w 27 5 Tryd.underlying27 Tryd.underlying5 _ _ 9 Tryd.underlying9
  | some ad =>
    have := run_convert_bytes_back (P := Tryd.prog) w 27 9 5 ad cap (zs.map UInt8.ofNat) Tryd.underlying27 Tryd.underlying5 Tryd.underlying9 (fun j hj => by
      have hj' : j < zs.length := by simpa using hj
      have hcell := bytes_cells hb j (.int .u8 (zs[j] : Int)) (by simp [u8s, hj'])
      rw [hcell]
      have := hb.1 _ (List.getElem_mem hj')
      simp
      omega)
    rw [List.length_map] at this
    exact this
theorem str_inj {a b : List Nat} (ha : ∀ c ∈ a, c < 256) (hb : ∀ c ∈ b, c < 256) (h : str a = str b) : a = b := by
  have h1 : a.map UInt8.ofNat = b.map UInt8.ofNat := by
    have := congrArg (fun s => s.data.toList) h
    simpa [str] using this
  have h2 : ∀ l : List Nat, (∀ c ∈ l, c < 256) → (l.map UInt8.ofNat).map UInt8.toNat = l := by
    intro l hl
    rw [List.map_map]
    conv => rhs; rw [← List.map_id l]
    apply List.map_congr_left
    intro c hc
    have := hl c hc
    simp
    omega
  rw [← h2 a ha, ← h2 b hb, h1]

theorem below_grown {w w' : World} (h : Below w.heap.size w w') : w.grownBy w' none := ⟨h.os, h.tape, h.output, h.size, fun k hk _ => h.block k hk⟩
theorem row_kept {w w' : World} {B n : Nat} {v : Value} {xs : List Value} (h : w.ownsRow B 5 1 v n xs) (hb : Below w.heap.size w w') : w'.ownsRow B 5 1 v n xs :=
  h.kept (below_grown hb) (by cases v.ownBlock <;> simp)
theorem row_bytes {w : World} {B g n c : Nat} {l : List Nat} (h : w.ownsRow B 5 1 (.slice (some ⟨g, 0, none⟩) n c) n (u8s l)) (hl : l.length = n) (hz : ∀ c ∈ l, c < 256) (hm : n ≤ maxLen) : BytesAt w (some ⟨g, 0, none⟩) l :=
  ⟨hz, by rw [hl]; exact hm, fun j hj => ⟨g, 0, rfl, by
    rw [Nat.zero_add, h.cellAt j (by omega)]
    simp [u8s, hj]⟩⟩
theorem lay_bytes {zs : List Nat} (q n : Nat) (hz : ∀ c ∈ zs, c < 256) : ∀ k, ∀ c ∈ lay zs q n k, c < 256 := by
  intro k
  induction k with
  | zero => exact hz
  | succ k ih =>
    intro c hc
    rw [lay] at hc
    rcases List.mem_or_eq_of_mem_set hc with h | h
    · exact ih c h
    · omega

/-- What Put leaves, where it lays l over the bytes zs. -/
def Put1 (w : World) (zs l : List Nat) (e : Ending) (w' : World) : Prop :=
  ∃ g c, e = .returned (.tuple #[.slice (some ⟨g, 0, none⟩) zs.length zs.length, .int .i64 0]) ∧ w'.ownsRow w.heap.size 5 1 (.slice (some ⟨g, 0, none⟩) zs.length c) zs.length (u8s l) ∧ Below w.heap.size w w'
theorem put1_of {w w' : World} {zs : List Nat} {q n k : Nat} {e : Ending} (h : Laid w (lay zs q n k) e w') : Put1 w zs (lay zs q n k) e w' := by
  obtain ⟨g, c, h1, _, h3, h4⟩ := h
  rw [lay_length] at h1 h3
  exact ⟨g, c, h1, h3, h4⟩
theorem put_yes (ad : Addr) (cap : Nat) (zs : List Nat) (q n S : Nat) (w : World) (hb : BytesAt w (some ad) zs) (hreach : zs.length ≤ 140737488355328)
    (hs : S = 1 ∨ S = 2 ∨ S = 4 ∨ S = 8) (h1 : q + S ≤ zs.length) (hn : n < 2 ^ (8 * S)) :
    Calls Tryd.prog 9 #[.slice (some ad) zs.length cap, .int .i64 (q : Int), .int .i64 (S : Int), .int .u64 (n : Int)] w (Put1 w zs (lay zs q n S)) := by
  rcases hs with rfl | rfl | rfl | rfl
  · exact (put_1 ad cap zs q n w hb hreach (by omega) hn).mono fun _ _ h => put1_of h
  · exact (put_2 ad cap zs q n w hb hreach (by omega) hn).mono fun _ _ h => put1_of h
  · exact (put_4 ad cap zs q n w hb hreach (by omega) hn).mono fun _ _ h => put1_of h
  · exact (put_8 ad cap zs q n w hb hreach (by omega) hn).mono fun _ _ h => put1_of h
end Go.Proofs.YtflepcoiidaekaaDoor

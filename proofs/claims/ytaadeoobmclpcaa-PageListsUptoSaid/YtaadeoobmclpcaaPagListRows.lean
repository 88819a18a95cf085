/- Rows of byte slices, whosever they are; two that say the same: a contract. -/
import Derived.Test.YtaadeoobmclpcaaPagChanges
import Derived.Test.YtaadeoobmclpcaaPagLists
import Derived.Test.YtaadeoobmclpcaaPagListMath
namespace Go.Proofs.Ytaadeoobmclpcaa
open Go.ChangeShapes Go.WideShapes Go.ChangeAt Go.RowKit

/-- A slice whose cells are byte slices that read as these. -/
def RowsB (w : World) (ao : Option Addr) (ls : List (List Nat)) : Prop := ∀ k, (h : k < ls.length) → ∃ G off a c, ao = some ⟨G, off, none⟩ ∧ w.cell? ⟨G, off + k, none⟩ = some (Value.slice a ls[k].length c) ∧ BytesAt w a ls[k]
theorem rowsB_nil (w : World) (ao : Option Addr) : RowsB w ao [] := fun _ h => absurd h (Nat.not_lt_zero _)
theorem rowsB_below {w w' : World} {ao : Option Addr} {ls : List (List Nat)} (h : RowsB w ao ls) (hb : Below w.heap.size w w') : RowsB w' ao ls := fun k hk => by
  obtain ⟨G, off, a, c, e, hc, hby⟩ := h k hk
  exact ⟨G, off, a, c, e, (hb.cell (World.block_lt_of_cell? w _ hc)).trans hc, bytes_below hby hb⟩
theorem rowsB_take {w : World} {ao : Option Addr} {ls : List (List Nat)} (h : RowsB w ao ls) (n : Nat) : RowsB w ao (ls.take n) := fun k hk => by
  have hk' : k < ls.length := by rw [List.length_take] at hk; omega
  obtain ⟨G, off, a, c, e, hc, hby⟩ := h k hk'
  rw [List.getElem_take]
  exact ⟨G, off, a, c, e, hc, hby⟩
theorem rowsB_drop {w : World} {G off : Nat} {ls : List (List Nat)} (h : RowsB w (some ⟨G, off, none⟩) ls) (n : Nat) : RowsB w (some ⟨G, off + n, none⟩) (ls.drop n) := fun k hk => by
  have hk' : n + k < ls.length := by rw [List.length_drop] at hk; omega
  obtain ⟨G', off', a, c, e, hc, hby⟩ := h (n + k) hk'
  cases e
  rw [List.getElem_drop]
  exact ⟨G, off + n, a, c, rfl, by rw [Nat.add_assoc]; exact hc, hby⟩
attribute [local irreducible] str
set_option maxHeartbeats 1000000 in
theorem lists_rows {A c cv : Nat} {xs : List (Nat × List Nat)} {ao : Option Addr} {ls : List (List Nat)} {w : World} (hA : RowsPart w A c xs) (hxc : xs.length = c) (hx : xs.map (·.2) = ls) (hr : RowsB w ao ls) (hs : Short ls) (hcm : c ≤ 1000) :
    Calls Try.prog 13 #[.slice (some ⟨A, 0, none⟩) c c, .slice ao c cv] w fun e w' => e = .returned (.bool true) ∧ Below w.heap.size w w' := by
  have hlc : ls.length = c := by rw [← hx, List.length_map]; exact hxc
  have HK : Hid (∀ V k, Below w.heap.size w V → k < c → ∃ G off g1 a2 c2 l, ao = some ⟨G, off, none⟩ ∧ V.cell? ⟨A, k, none⟩ = some (Value.slice (some ⟨g1, 0, none⟩) l.length l.length) ∧ V.cell? ⟨G, off + k, none⟩ = some (Value.slice a2 l.length c2) ∧ BytesAt V (some ⟨g1, 0, none⟩) l ∧ BytesAt V a2 l) := by
    refine Lib.hid (fun V k hV hk => ?_)
    obtain ⟨a1, a2⟩ := rowsPart_get (rowsPart_below hA hV) (k := k) (by omega)
    have hlk : k < ls.length := by omega
    obtain ⟨G, off, b2, c2, e, hc, hby⟩ := rowsB_below hr hV k hlk
    have e2 : xs[k].2 = ls[k] := by
      have h1 : (xs.map (·.2))[k]? = some xs[k].2 := by rw [List.getElem?_map, List.getElem?_eq_getElem (by omega)]; rfl
      rw [hx, List.getElem?_eq_getElem hlk] at h1
      exact (Option.some.inj h1).symm
    have hsh := hs ls[k] (List.getElem_mem _)
    have hml : ls[k].length ≤ maxLen := by have := hsh.2; unfold maxLen; omega
    rw [e2] at a1 a2
    exact ⟨G, off, xs[k].1, b2, c2, ls[k], e, a1, hc, cells_bytes a2 hsh.1 hml, hby⟩
  clear hA hxc hx hr hs hlc
  go_enter Try.func13, Try.ntmps13
  go_wp2
  go_loopw [5] (fun i wr => ∃ k : Nat, k ≤ c ∧ i = .int .i64 k ∧ Hid (Below w.heap.size w wr)) (fun i _ => (c - (intOf i)).toNat)
  case atStart => exact ⟨0, by omega, rfl, Lib.hid (Below.refl _ _)⟩
  case round =>
    obtain ⟨k, hk, rfl, HBr⟩ := hrel
    by_cases hlt : k < c
    · obtain ⟨G, off, g1, a2, c2, l, rfl, hcA, hcB, b1, b2⟩ := HK.out wr k HBr.out hlt
      have hn : ∀ n, Below wr.heap.size wr (wr.drewN n) := fun n => below_drewN (Below.refl _ _) n
      have k1 : ∀ n, (convert 24 9 (.slice (some ⟨g1, 0, none⟩) l.length l.length)).run Try.prog (wr.drewN n) = .ok (.string (str l)) (wr.drewN n) := fun n => conv_any (bytes_below b1 (hn n)) rfl l.length
      have k2 : ∀ n, (convert 24 9 (.slice a2 l.length c2)).run Try.prog (wr.drewN n) = .ok (.string (str l)) (wr.drewN n) := fun n => conv_any (bytes_below b2 (hn n)) rfl c2
      obtain ⟨m, hm⟩ : ∃ m, m = l.length := ⟨_, rfl⟩
      obtain ⟨s, hs⟩ : ∃ s, s = str l := ⟨_, rfl⟩
      rw [← hm] at hcA hcB k1 k2
      rw [← hs] at k1 k2
      clear hm hs b1 b2 hn
      go_wp2
      go_quiet (fail)
      have HB5 : Hid (Below w.heap.size w (wr.drewN nq)) := Lib.hid (below_drewN HBr.out nq)
      go_wp2
      go_roundw
      case rel => exact ⟨k + 1, by omega, by go_num, HB5⟩
      case measure => simp [intOf]; omega
    · obtain rfl : k = c := by omega
      go_wp2
      go_ret
      exact ⟨rfl, HBr.out⟩
end Go.Proofs.Ytaadeoobmclpcaa

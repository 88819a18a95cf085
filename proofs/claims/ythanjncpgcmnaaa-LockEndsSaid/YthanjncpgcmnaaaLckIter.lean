/- A map's names, collected, and in order: the shelf's contracts in our own words. -/
import Derived.Test.YthanjncpgcmnaaaLckKeys
import Derived.Test.YthanjncpgcmnaaaShelf
namespace Go.Proofs.Ythanjncpgcmnaaa
open Go.ChangeShapes Go.WideShapes Go.ChangeAt Go.RowKit Go.Maps Go.Sort Go.Shelf

theorem keys_any (mb : Option Nat) (W : World) : Calls Try.prog 37 #[.map mb] W fun e w' => e = .returned (.func (.func 60) #[] #[.pointer (some ⟨W.heap.size, 0, none⟩)]) ∧ w' = W.alloc (.cells #[.map mb] 77) :=
  (callsIn_wide (n := 5)).1 (AnyZ.keys_in Try.keysK Fence.wide 5 trivial rfl mb W)
theorem sorts_any (m : Nat) : AnyZ.SortsIn Try.prog Try.sortedK_ren Fence.wide m :=
  ⟨fun blk off cap ss W hH hblk hsz => callsIn_wide.2 (AnyM.slices_Sort_string Try.sortK blk off cap ss W hH hblk hsz),
   fun p cap W => callsIn_wide.2 (AnyM.slices_Sort_string_none Try.sortK p cap W)⟩
theorem str_map (ss : List (List UInt8)) : ss.map encStr = (ss.map nmOf).map Value.string := by rw [List.map_map]; rfl
section
variable {w : World} {b n : Nat} {f : ByteArray → Nat} (h : MapAt w 9 (plainElem Try.prog 3) b n kS (·.size ≤ maxLen) (modes f)) (hf : ∀ nm, f nm ≠ 0 → nm.size ≤ maxLen)
include h hf
theorem gives_any : ∃ D : DataW Value, Maps.size D ≤ n ∧ (strKeys D).Nodup ∧ (∀ x ∈ strKeys D, x.length ≤ maxLen) ∧ (∀ x, x ∈ strKeys D ↔ f (nmOf x) ≠ 0) ∧
    SeqGives Fence.wide 2 Try.prog 60 #[.pointer (some ⟨w.heap.size, 0, none⟩)] encStr (fun ss => ss.Perm (strKeys D)) (Maps.size D) (w.alloc (.cells #[.map (some b)] 77)) := by
  obtain ⟨D, hown, h1, h2, h3, h4⟩ := keys_mem h hf
  have hbl := hown.lt
  exact ⟨D, h1, h2, h3, h4, AnyZ.keys_gives (ρ := Try.keysK_ren) { Try.keysK with } Fence.wide _ trivial rfl (by omega) w.heap.size b n D _ (by simp) (by simp) (by
    obtain ⟨es, clock, hb, Ft, hs, hD⟩ := hown
    exact ⟨es, clock, (Below.heap_alloc _ _ b hbl).trans hb, Ft, hs, hD⟩)⟩
theorem sorted_any (hn : n < 8796093022208) : Calls Try.prog 42 #[.func (.func 60) #[] #[.pointer (some ⟨w.heap.size, 0, none⟩)]] (w.alloc (.cells #[.map (some b)] 77)) fun e w' =>
    ∃ (v : Value) (ns : List ByteArray), e = .returned v ∧ Names f ns ∧ ns.length ≤ n ∧ w'.ownsRow (w.alloc (.cells #[.map (some b)] 77)).heap.size 9 1 v ns.length (ns.map Value.string) ∧ Below (w.alloc (.cells #[.map (some b)] 77)).heap.size (w.alloc (.cells #[.map (some b)] 77)) w' := by
  obtain ⟨D, h1, h2, h3, h4, hseq⟩ := gives_any h hf
  refine (callsIn_wide (n := 5)).1 ((AnyZ.sorted_in Try.sortedK Fence.wide 5 trivial trivial trivial trivial rfl (by omega) (sorts_any _) (enters_of Try.func38 (by kernel_rfl) rfl) 60 #[.pointer (some ⟨w.heap.size, 0, none⟩)] trivial (enters_of Try.func60 (by kernel_rfl) rfl) _ _ (by unfold maxLen; omega) (by omega) _ hseq).mono ?_)
  rintro e w' ⟨v, ss, rfl, hS, hrow, _, hb⟩
  have hl : ss.length = (strKeys D).length := hS.length_eq
  have hsz : (strKeys D).length ≤ Maps.size D := by cases D <;> simp [strKeys, Maps.size]
  refine ⟨v, (ss.mergeSort fun x y => decide (x ≤ y)).map nmOf, rfl, names_sort hS h2 h3 h4, by simp; omega, ?_, hb⟩
  rw [← str_map, List.length_map, List.length_mergeSort]
  exact hrow
/-- The names, in whatever order. -/
theorem collect_any (hn : n < 8796093022208) : Calls Try.prog 36 #[.func (.func 60) #[] #[.pointer (some ⟨w.heap.size, 0, none⟩)]] (w.alloc (.cells #[.map (some b)] 77)) fun e w' =>
    ∃ (v : Value) (ss : List (List UInt8)), e = .returned v ∧ ss.Nodup ∧ (∀ x ∈ ss, x.length ≤ maxLen) ∧ (∀ x, x ∈ ss ↔ f (nmOf x) ≠ 0) ∧ ss.length ≤ n ∧ w'.ownsRow (w.alloc (.cells #[.map (some b)] 77)).heap.size 9 1 v ss.length (ss.map encStr) ∧ Below (w.alloc (.cells #[.map (some b)] 77)).heap.size (w.alloc (.cells #[.map (some b)] 77)) w' := by
  obtain ⟨D, h1, h2, h3, h4, hseq⟩ := gives_any h hf
  refine (callsIn_wide (n := 4)).1 ((AnyZ.collect_in Try.collectK Fence.wide 4 trivial trivial rfl (by omega) 60 #[.pointer (some ⟨w.heap.size, 0, none⟩)] trivial (enters_of Try.func60 (by kernel_rfl) rfl) _ _ (by unfold maxLen; omega) (by omega) _ hseq).mono ?_)
  rintro e w' ⟨v, ss, rfl, hS, hrow, _, hb⟩
  have hl : ss.length = (strKeys D).length := hS.length_eq
  have hsz : (strKeys D).length ≤ Maps.size D := by cases D <;> simp [strKeys, Maps.size]
  exact ⟨v, ss, rfl, hS.nodup_iff.2 h2, fun x hx => h3 x (hS.mem_iff.1 hx), fun x => hS.mem_iff.trans (h4 x), by omega, hrow, hb⟩
end
/-- Texts put in order. -/
theorem sort_any (blk off cap : Nat) (ss : List (List UInt8)) (w : World) (hH : Holds encStr w blk off ss.toArray) (hblk : blk < w.heap.size) (hsz : ss.length < 4611686018427387904) :
    Calls Try.prog 38 #[.slice (some ⟨blk, off, none⟩) ss.length cap] w fun e w' => e = .returned (.tuple #[]) ∧ ∃ n os, w' = grow (putRow encStr (Sort.ahead w n) blk off (ss.mergeSort fun x y => decide (x ≤ y)).toArray) os := AnyM.slices_Sort_string Try.sortK blk off cap ss w hH hblk hsz
theorem sort_none (p : Option Addr) (cap : Nat) (w : World) : Calls Try.prog 38 #[.slice p 0 cap] w fun e w' => e = .returned (.tuple #[]) ∧ w' = w := AnyM.slices_Sort_string_none Try.sortK p cap w
end Go.Proofs.Ythanjncpgcmnaaa

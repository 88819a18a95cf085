/- The names that an owner holds, in order. -/
import Derived.Test.YthanjncpgcmnaaaLckLive
import Derived.Sort.KeysCollected
namespace Go.Proofs.Ythanjncpgcmnaaa
open Go.ChangeShapes Go.WideShapes Go.ChangeAt Go.RowKit

theorem slc_of_own {w : World} {B sz n : Nat} {v : Value} {t : TypeId} {xs : List Value} (h : w.ownsRow B t sz v n xs) (h1 : ∀ u ∈ xs, u.oneCell' = true) : ∃ bo, Slc w bo sz v n xs ∧ ∀ b, bo = some b → B ≤ b ∧ ∃ cur, w.heap[b]? = some (.cells cur t (0, 0)) := by
  have hlen := h.1
  rcases h.2 with ⟨rfl, rfl⟩ | ⟨g, cap, cur, rfl, hB, hg, e1, e2, e3, e4⟩
  · refine ⟨none, ⟨hlen, h1, .inl ⟨rfl, rfl, rfl⟩⟩, fun b e => by cases e⟩
  · refine ⟨some g, ⟨hlen, h1, .inr ⟨g, 0, cap, rfl, rfl, cells_lt hg, e1, e2, fun j u hu => ?_, fun j hj => ⟨?_, frozen_of_row _ _ _ _ _ hg⟩⟩⟩, fun b e => by cases e; exact ⟨hB, cur, hg⟩⟩
    · rw [cell_of_row _ _ _ _ _ _ hg, Nat.zero_add]
      rw [← e4, List.getElem?_take] at hu
      split at hu
      · rw [← hu]; simp
      · cases hu
    · rw [cell_of_row _ _ _ _ _ _ hg, Nat.zero_add, Array.getElem?_eq_getElem (by omega)]
      rfl
/-- A name as its bytes. -/
def nmOf (l : List UInt8) : ByteArray := ⟨l.toArray⟩
theorem nmOf_data (l : List UInt8) : (nmOf l).data.toList = l := by simp [nmOf]
theorem nmOf_of (nm : ByteArray) : nmOf nm.data.toList = nm := by cases nm; simp [nmOf]
theorem nmOf_size (l : List UInt8) : (nmOf l).size = l.length := by simp [nmOf, ByteArray.size]
/-- Names in order, each once: all of f. -/
structure Names (f : ByteArray → Nat) (ns : List ByteArray) : Prop where
  sorted : ns.Pairwise fun a b => a.data.toList ≤ b.data.toList ∧ a ≠ b
  mem : ∀ nm, nm ∈ ns ↔ f nm ≠ 0
  size : ∀ nm ∈ ns, nm.size ≤ maxLen
theorem keys_mem {w : World} {b n : Nat} {f : ByteArray → Nat} (h : MapAt w 9 (plainElem Try.prog 3) b n kS (·.size ≤ maxLen) (modes f)) (hf : ∀ nm, f nm ≠ 0 → nm.size ≤ maxLen) :
    ∃ D : DataW Value, w.ownsMap Try.prog 9 (plainElem Try.prog 3) b n D ∧ (Maps.size D ≤ n) ∧ (strKeys D).Nodup ∧ (∀ x ∈ strKeys D, x.length ≤ maxLen) ∧ ∀ x, x ∈ strKeys D ↔ f (nmOf x) ≠ 0 := by
  obtain ⟨D, hown, hat⟩ := h.ex
  refine ⟨D, hown, hown.size_le, ?_, fun x hx => ?_, fun x => ?_⟩
  · obtain ⟨es, rfl, hk⟩ := hown.keysOf
    obtain ⟨es', he, hp⟩ := hown.tidy keysS
    cases he
    show (es.map fun p => strOf p.1).Nodup
    refine List.pairwise_map.2 (hp.imp_of_mem fun {p q} hp' hq' hne e => hne ?_)
    obtain ⟨v, hv⟩ := hk p hp'
    obtain ⟨v', hv'⟩ := hk q hq'
    obtain ⟨a, _, ha, _⟩ := Maps.keyOf_str Try.underlying9 hv
    obtain ⟨b, _, hb, _⟩ := Maps.keyOf_str Try.underlying9 hv'
    rw [ha, hb] at e ⊢
    exact congrArg _ e
  · exact strKeys_le hown Try.underlying9 x hx
  · have hin : x ∈ strKeys D ↔ Maps.has D (.string x) = true := by
      obtain ⟨es, rfl, hk⟩ := hown.keysOf
      rw [Maps.has_eq, List.any_eq_true]
      show x ∈ es.map (fun p => strOf p.1) ↔ _
      rw [List.mem_map]
      constructor
      · rintro ⟨p, hp, rfl⟩
        obtain ⟨v, hv⟩ := hk p hp
        obtain ⟨a, _, ha, _⟩ := Maps.keyOf_str Try.underlying9 hv
        exact ⟨p, hp, by rw [ha]; exact WideAt.sameKey_self trivial⟩
      · rintro ⟨p, hp, he⟩
        exact ⟨p, hp, by rw [(WideAt.sameKey_iff (b := .string x) trivial).1 he]; rfl⟩
    rw [hin]
    constructor
    · intro hh h0
      by_cases hs : (nmOf x).size ≤ maxLen
      · have := Maps.has_false_of_atKey (D := D) (k := .string x) (fun z => by
          have := hat (nmOf x) hs z
          rw [kS, nmOf_data] at this
          rw [this, modes, if_pos h0]; rfl)
        rw [this] at hh; cases hh
      · rw [nmOf_size] at hs
        exact hs (strKeys_le hown Try.underlying9 x (hin.2 hh))
    · intro h0
      exact Maps.has_true_of_atKey (y := .lit (.int .i64 (f (nmOf x) : Int))) (fun z => by
        have := hat (nmOf x) (hf _ h0) z
        rw [kS, nmOf_data] at this
        rw [this, modes, if_neg h0]; rfl)
theorem names_sort {f : ByteArray → Nat} {ss ks : List (List UInt8)} (hp : ss.Perm ks) (hnd : ks.Nodup) (hlen : ∀ x ∈ ks, x.length ≤ maxLen) (hm : ∀ x, x ∈ ks ↔ f (nmOf x) ≠ 0) : Names f ((ss.mergeSort fun x y => decide (x ≤ y)).map nmOf) := by
  have hp' : (ss.mergeSort fun x y => decide (x ≤ y)).Perm ks := (List.mergeSort_perm _ _).trans hp
  have tr : ∀ a b c : List UInt8, (decide (a ≤ b)) = true → (decide (b ≤ c)) = true → (decide (a ≤ c)) = true := fun a b c h1 h2 => by simp only [decide_eq_true_eq] at *; exact List.le_trans h1 h2
  have tot : ∀ a b : List UInt8, (decide (a ≤ b) || decide (b ≤ a)) = true := fun a b => by simp only [Bool.or_eq_true, decide_eq_true_eq]; exact List.le_total a b
  have hs := List.pairwise_mergeSort tr tot ss
  have hn := hp'.nodup_iff.2 hnd
  refine ⟨List.pairwise_map.2 ((hs.and hn).imp fun {a b} h => ?_), fun nm => ?_, fun nm hnm => ?_⟩
  · rw [nmOf_data, nmOf_data]
    refine ⟨by simpa using h.1, fun e => h.2 ?_⟩
    rw [← nmOf_data a, e, nmOf_data]
  · rw [List.mem_map]
    constructor
    · rintro ⟨x, hx, rfl⟩
      exact (hm x).1 (hp'.mem_iff.1 hx)
    · intro h
      exact ⟨nm.data.toList, hp'.mem_iff.2 ((hm _).2 (by rw [nmOf_of]; exact h)), nmOf_of nm⟩
  · obtain ⟨x, hx, rfl⟩ := List.mem_map.1 hnm
    rw [nmOf_size]
    exact hlen x (hp'.mem_iff.1 hx)
end Go.Proofs.Ythanjncpgcmnaaa

/- A map's size is no more than the number of its keys. -/
import Derived.Test.YthanjncpgcmnaaaLckKeys
import Derived.Test.YthanjncpgcmnaaaLckMem
namespace Go.Proofs.Ythanjncpgcmnaaa
open Go.ChangeShapes Go.WideShapes Go.ChangeAt Go.RowKit

theorem nodup_len {l U : List Nat} (h : l.Nodup) (hs : ∀ a ∈ l, a ∈ U) : l.length ≤ U.length := by
  induction l generalizing U with
  | nil => exact Nat.zero_le _
  | cons a r ih =>
    obtain ⟨h1, h2⟩ := List.nodup_cons.1 h
    have ha := hs a (by simp)
    have := ih (U := U.erase a) h2 (fun b hb => (List.mem_erase_of_ne (fun e => by subst e; exact h1 hb)).2 (hs b (by simp [hb])))
    rw [List.length_erase_of_mem ha] at this
    have := List.length_pos_of_mem ha
    simp only [List.length_cons]; omega
def natOf : Lit → Nat
  | .int _ x => x.toNat
  | _ => 0
/-- A map that holds keys of U alone counts no more than these. -/
theorem MapAt.tight {w : World} {R : Value → Option (DataW Value × List MemPlace)} {b n : Nat} {f : Nat → Option (DataW Value)} (h : MapAt w 27 R b n kU (· < top) f) {U : List Nat} (hU : ∀ a, a < top → f a ≠ none → a ∈ U) : MapAt w 27 R b U.length kU (· < top) f := by
  obtain ⟨D, hown, hat⟩ := h.ex
  obtain ⟨es, rfl, hk⟩ := hown.keysOf
  obtain ⟨es', he, hp⟩ := hown.tidy keysU
  cases he
  have hkey : ∀ p ∈ es, ∃ x : Nat, p.1 = kU x ∧ x < top := fun p hpm => by
    obtain ⟨v, hv⟩ := hk p hpm
    obtain ⟨x, _, hx, hwx⟩ := Maps.keyOf_int_inv Try.underlying27 hv
    have hb := bounds_u64 hwx
    exact ⟨x.toNat, by rw [hx]; simp only [kU, Lit.int.injEq, true_and]; omega, by unfold top; omega⟩
  have hnd : (es.map fun p => natOf p.1).Nodup := by
    refine List.pairwise_map.2 (hp.imp_of_mem fun {p q} hp' hq' hne e => hne ?_)
    obtain ⟨x, hx, _⟩ := hkey p hp'
    obtain ⟨y, hy, _⟩ := hkey q hq'
    rw [hx, hy] at e ⊢
    simp only [natOf, kU, Int.toNat_natCast] at e
    rw [e]
  have hsub : ∀ a ∈ es.map (fun p => natOf p.1), a ∈ U := fun a ha => by
    obtain ⟨p, hpm, rfl⟩ := List.mem_map.1 ha
    obtain ⟨x, hx, hxt⟩ := hkey p hpm
    have e : natOf p.1 = x := by rw [hx]; simp [natOf, kU]
    rw [e]
    refine hU x hxt (fun h0 => ?_)
    have h1 : Maps.has (DataW.map es) (kU x) = true := by
      rw [Maps.has_eq, List.any_eq_true]
      exact ⟨p, hpm, by rw [hx]; exact WideAt.sameKey_self (kU_key x)⟩
    have h2 := Maps.has_false_of_atKey (D := DataW.map es) (k := kU x) (fun z => by rw [hat x hxt z, h0]; rfl)
    rw [h2] at h1; cases h1
  have hlen := nodup_len hnd hsub
  rw [List.length_map] at hlen
  obtain ⟨ms, clock, hb, F, hs, hD⟩ := hown
  refine ⟨⟨_, ⟨ms, clock, hb, F, ?_, hD⟩, hat⟩⟩
  have h1 : Maps.size (DataW.map es) = ms.size := by rw [hD]; simp [Maps.size, _root_.Go.length_sorted]
  have h2 : Maps.size (DataW.map es) = es.length := rfl
  omega
end Go.Proofs.Ythanjncpgcmnaaa

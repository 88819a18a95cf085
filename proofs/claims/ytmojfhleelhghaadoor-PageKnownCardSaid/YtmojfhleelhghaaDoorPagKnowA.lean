/- Chapter 5's examples: the pages, as plain lists. -/
import Derived.Test.YtmojfhleelhghaaDoorPagInsertC
namespace Go.Proofs.YtmojfhleelhghaaDoor

def pA : List Nat := insOf page1 0 [97, 98]
def pB : List Nat := insOf pA 0 [99]
def pC : List Nat := removed pB 0
def pD : List Nat := insOf pC 1 (List.replicate 476 0)
def pT : List Nat := insOf page1 0 (List.replicate 10 0)
theorem pA_eq : insOf page1 0 [97, 98] = pA := rfl
theorem pB_eq : insOf pA 0 [99] = pB := rfl
theorem pC_eq : removed pB 0 = pC := rfl
theorem pD_eq : insOf pC 1 (List.replicate 476 0) = pD := rfl
theorem pT_eq : insOf page1 0 (List.replicate 10 0) = pT := rfl
theorem pA_good : Good pA := by unfold Good; decide +kernel
theorem pA_bytes : ∀ c ∈ pA, c < 256 := by decide +kernel
theorem pA_count : rd pA 14 2 = 1 := by decide +kernel
theorem pA_sizes : sizes pA 1 = 2 := by decide +kernel
theorem pB_good : Good pB := by unfold Good; decide +kernel
theorem pB_bytes : ∀ c ∈ pB, c < 256 := by decide +kernel
theorem pB_count : rd pB 14 2 = 2 := by decide +kernel
theorem pB_low : rd pB 16 2 = 509 := by decide +kernel
theorem pC_good : Good pC := by unfold Good; decide +kernel
theorem pC_bytes : ∀ c ∈ pC, c < 256 := by decide +kernel
theorem pC_count : rd pC 14 2 = 1 := by decide +kernel
theorem pC_low : rd pC 16 2 = 509 := by decide +kernel
theorem pC_sizes : sizes pC 1 = 2 := by decide +kernel
theorem pD_bytes : ∀ c ∈ pD, c < 256 := by decide +kernel
theorem pD_length : pD.length = 512 := by decide +kernel
theorem pD_low : rd pD 16 2 = 34 := by decide +kernel
theorem pT_good : Good pT := by unfold Good; decide +kernel
theorem pT_bytes : ∀ c ∈ pT, c < 256 := by decide +kernel
theorem pT_count : rd pT 14 2 = 1 := by decide +kernel
theorem pT_sizes : sizes pT 1 = 10 := by decide +kernel
theorem page1_free : 486 - 4 * ((rd page1 14 2 : Nat) : Int) - ((sizes page1 (rd page1 14 2) : Nat) : Int) = 486 := by decide +kernel
theorem pT_free : 486 - 4 * ((rd pT 14 2 : Nat) : Int) - ((sizes pT (rd pT 14 2) : Nat) : Int) = 472 := by decide +kernel
theorem page1_sum : rd page1 0 4 = 0 := by decide +kernel
theorem page1_more : more 0 (page1.drop 4) ≠ 0 := by decide +kernel
theorem page1_not : page1 ≠ noughts := by decide +kernel
theorem page1_check (d : Int) (h : checkOf page1 d) : d = 8 := by
  rcases h with ⟨h, _⟩ | ⟨_, h, _⟩ | ⟨_, _, _, h⟩ | ⟨_, _, h, _⟩
  · exact absurd h page1_not
  · exact absurd page1_good h
  · exact h
  · rw [page1_sum] at h; exact absurd h.symm page1_more
theorem noughts_check (d : Int) (h : checkOf noughts d) : d = 0 := by
  rcases h with ⟨_, h⟩ | ⟨h, _⟩ | ⟨h, _⟩ | ⟨h, _⟩
  · exact h
  all_goals exact absurd rfl h
theorem sealed_check (d : Int) (h : checkOf (sealed page1 5) d) : d = 0 := by
  rcases h with ⟨_, h⟩ | ⟨_, h, _⟩ | ⟨_, _, h, _⟩ | ⟨_, _, _, h⟩
  · exact h
  · exact absurd (sealed_good page1_bytes page1_good 5) h
  · exact absurd (sealed_sum page1_bytes (by rw [page1_good.1]; decide) 5) h
  · exact h
end Go.Proofs.YtmojfhleelhghaaDoor

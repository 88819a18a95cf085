/- What the cells of a good page take: plain facts. -/
import Derived.Test.YtaadeoobmclpcaaPagRemove
namespace Go.Proofs.Ytaadeoobmclpcaa

theorem markk_count {T : List Bool} {a : Nat} : ∀ {j : Nat} {U : List Bool}, markk T a j = some U → a + j ≤ T.length → U.count true = T.count true + j := by
  intro j
  induction j with
  | zero => intro U h _; cases h; rfl
  | succ j ih =>
    intro U h hl
    rw [markk] at h
    split at h
    · cases h
    · rename_i V hV
      split at h
      · cases h
      · rename_i hf
        cases h
        have hVl := markk_length hV
        have hlt : a + j < V.length := by omega
        rw [List.count_set hlt, ih hV (by omega)]
        rw [List.getD_eq_getElem?_getD, List.getElem?_eq_getElem hlt] at hf
        simp at hf
        rw [hf]
        simp
        omega
theorem markk_low {T : List Bool} {a lo : Nat} (ha : lo ≤ a) (hT : ∀ i, i < lo → T.getD i false = false) : ∀ {j : Nat} {U : List Bool}, markk T a j = some U → ∀ i, i < lo → U.getD i false = false := by
  intro j
  induction j with
  | zero => intro U h; cases h; exact hT
  | succ j ih =>
    intro U h i hi
    rw [markk] at h
    split at h
    · cases h
    · rename_i V hV
      split at h
      · cases h
      · cases h
        have := ih hV i hi
        rw [List.getD_eq_getElem?_getD, List.getElem?_set_ne (by omega), ← List.getD_eq_getElem?_getD]
        exact this
theorem marks_count {p : List Nat} {low : Nat} : ∀ {n : Nat} {T : List Bool}, marks p low n = some T → T.count true = sizes p n ∧ ∀ i, i < low → T.getD i false = false := by
  intro n
  induction n with
  | zero =>
    intro T h
    cases h
    refine ⟨?_, fun i hi => ?_⟩
    · rw [sizes, List.count_eq_zero]
      intro h
      rw [List.mem_replicate] at h
      cases h.2
    rw [List.getD_eq_getElem?_getD, List.getElem?_replicate]
    split <;> rfl
  | succ n ih =>
    intro T h
    rw [marks] at h
    split at h
    · cases h
    · rename_i V hV
      split at h
      · cases h
      · rename_i hno
        have hl := marks_length hV
        obtain ⟨h1, h2⟩ := ih hV
        refine ⟨?_, markk_low (by omega) h2 h⟩
        rw [markk_count h (by omega), h1, sizes]
theorem count_low {T : List Bool} {lo : Nat} (h : ∀ i, i < lo → T.getD i false = false) (hl : lo ≤ T.length) : T.count true + lo ≤ T.length := by
  have e : T = T.take lo ++ T.drop lo := (List.take_append_drop lo T).symm
  have h0 : (T.take lo).count true = 0 := by
    rw [List.count_eq_zero]
    intro hm
    obtain ⟨i, hi, he⟩ := List.getElem_of_mem hm
    have hi' : i < lo := by simp at hi; omega
    have := h i hi'
    rw [List.getElem_take] at he
    rw [List.getD_eq_getElem?_getD, List.getElem?_eq_getElem (by simp at hi; omega), he] at this
    cases this
  have h1 : (T.drop lo).count true ≤ (T.drop lo).length := List.count_le_length
  rw [List.length_drop] at h1
  rw [e, List.count_append, h0, ← e]
  omega
/-- What is needed to lay a page's cells out anew. -/
def Fitting (zs : List Nat) (c : Nat) : Prop := 26 + 4 * c + sizes zs c ≤ 512 ∧ ∀ i, i < c → rd zs (26 + 4 * i) 2 + rd zs (28 + 4 * i) 2 ≤ 512
theorem good_sizes {zs : List Nat} (hg : Good zs) : sizes zs (rd zs 14 2) + rd zs 16 2 ≤ 512 := by
  obtain ⟨T, hT⟩ := Option.isSome_iff_exists.1 hg.2.2.2.2
  obtain ⟨h1, h2⟩ := marks_count hT
  have hl := marks_length hT
  have := count_low h2 (by have := hg.2.2.2.1; omega)
  omega
theorem good_fitting {zs : List Nat} (hg : Good zs) : Fitting zs (rd zs 14 2) :=
  ⟨by have := good_sizes hg; have := hg.2.2.1; omega, fun i hi => good_cell hg i hi⟩
theorem sizes_mono (zs : List Nat) : ∀ {j k : Nat}, j ≤ k → sizes zs j ≤ sizes zs k := by
  intro j k h
  induction k with
  | zero => obtain rfl : j = 0 := by omega
            exact Nat.le_refl _
  | succ k ih =>
    by_cases e : j = k + 1
    · rw [e]; exact Nat.le_refl _
    · rw [sizes]; have := ih (by omega); omega
/-- The page's bytes while its cells are laid out anew: k of them. -/
def relOut (zs : List Nat) (c : Nat) : Nat → List Nat
  | 0 => splice noughts 0 (zs.take (26 + 4 * c))
  | k + 1 => lay (lay (splice (relOut zs c k) (512 - sizes zs (k + 1)) (cellOf zs k)) (26 + 4 * k) (512 - sizes zs (k + 1)) 2) (28 + 4 * k) (rd zs (28 + 4 * k) 2) 2
/-- A page laid out anew, with that head. -/
def relaid (zs : List Nat) (H : Hd) : List Nat := wr (relOut zs H.count H.count) { H with low := 512 - sizes zs H.count }
theorem cellOf_length {zs : List Nat} (hl : zs.length = 512) {i : Nat} (h : rd zs (26 + 4 * i) 2 + rd zs (28 + 4 * i) 2 ≤ 512) : (cellOf zs i).length = rd zs (28 + 4 * i) 2 := by
  rw [cellOf, List.length_take, List.length_drop]; omega
theorem relOut_length {zs : List Nat} (hl : zs.length = 512) {c : Nat} (hf : Fitting zs c) : ∀ {k : Nat}, k ≤ c → (relOut zs c k).length = 512
  | 0, _ => by
    rw [relOut, length_splice _ _ _ (by rw [noughts, List.length_replicate, List.length_take]; have := hf.1; omega)]
    exact List.length_replicate
  | k + 1, h => by
    have := sizes_mono zs h
    have := hf.1
    have hs : sizes zs (k + 1) = sizes zs k + rd zs (28 + 4 * k) 2 := rfl
    rw [relOut, lay_length, lay_length, length_splice _ _ _ (by rw [relOut_length hl hf (by omega), cellOf_length hl (hf.2 k (by omega))]; omega)]
    exact relOut_length hl hf (by omega)
theorem splice_bytes {zs cs : List Nat} (hz : ∀ c ∈ zs, c < 256) (hc : ∀ c ∈ cs, c < 256) (a : Nat) : ∀ c ∈ splice zs a cs, c < 256 := by
  intro c h
  simp only [splice, List.mem_append] at h
  rcases h with h | h | h
  · exact hz c (List.mem_of_mem_take h)
  · exact hc c h
  · exact hz c (List.mem_of_mem_drop h)
theorem noughts_bytes : ∀ c ∈ noughts, c < 256 := by
  intro c h
  rw [noughts, List.mem_replicate] at h
  omega
theorem cellOf_bytes {zs : List Nat} (hz : ∀ c ∈ zs, c < 256) (i : Nat) : ∀ c ∈ cellOf zs i, c < 256 := fun c h => hz c (List.mem_of_mem_drop (List.mem_of_mem_take h))
theorem relOut_bytes {zs : List Nat} (hz : ∀ c ∈ zs, c < 256) (c : Nat) : ∀ k, ∀ b ∈ relOut zs c k, b < 256
  | 0 => splice_bytes noughts_bytes (fun d h => hz d (List.mem_of_mem_take h)) _
  | k + 1 => lay_bytes _ _ (lay_bytes _ _ (splice_bytes (relOut_bytes hz c k) (cellOf_bytes hz k) _) _) _
end Go.Proofs.Ytaadeoobmclpcaa

/- What begins with what; what lies above all that begin with some bytes: plain laws; contract of begins. -/
import Derived.Test.YtpbdchcocadnkaaDoorKeyBytes
namespace Go.Proofs.YtpbdchcocadnkaaDoor
open Go.ChangeShapes Go.WideShapes Go.ChangeAt Go.RowKit

theorem cmp_pre : ∀ (p : List Nat) (d : Nat) (r : List Nat), cmpN (p ++ d :: r) (p ++ [d + 1]) = -1
  | [], d, r => by simp [cmpN]
  | e :: p, d, r => by
    have ih := cmp_pre p d r
    simp [cmpN, ih]
theorem pre_255 : ∀ (r b : List Nat), (∀ c ∈ r, c = 255) → (∀ c ∈ b, c < 256) → cmpN b r ≠ -1 → r <+: b
  | [], b, _, _, _ => List.nil_prefix
  | e :: r, [], _, _, h => by simp [cmpN] at h
  | e :: r, c :: b, hr, hb, h => by
    obtain rfl : e = 255 := hr e (List.mem_cons_self ..)
    have hc := hb c (List.mem_cons_self ..)
    by_cases h1 : c < 255
    · simp [cmpN, h1] at h
    · obtain rfl : c = 255 := by omega
      simp only [cmpN, Nat.lt_irrefl, if_false] at h
      rw [List.cons_prefix_cons]
      exact ⟨rfl, pre_255 r b (fun c hc => hr c (List.mem_cons_of_mem _ hc)) (fun c hc => hb c (List.mem_cons_of_mem _ hc)) h⟩
theorem pre_between : ∀ (p : List Nat) (d : Nat) (r b : List Nat), (∀ c ∈ r, c = 255) → (∀ c ∈ b, c < 256) → cmpN b (p ++ [d + 1]) = -1 → cmpN b (p ++ d :: r) ≠ -1 → (p ++ d :: r) <+: b
  | [], d, r, [], _, _, _, h => by simp [cmpN] at h
  | [], d, r, c :: b, hr, hb, h1, h2 => by
    simp only [List.nil_append, cmpN] at h1 h2 ⊢
    by_cases k1 : c < d
    · simp [k1] at h2
    · by_cases k2 : d < c
      · rw [if_neg (by omega)] at h1
        by_cases k3 : d + 1 < c
        · simp [k3] at h1
        · rw [if_neg k3] at h1
          cases b <;> simp [cmpN] at h1
      · obtain rfl : c = d := by omega
        simp only [Nat.lt_irrefl, if_false] at h2
        rw [List.cons_prefix_cons]
        exact ⟨rfl, pre_255 r b hr (fun c hc => hb c (List.mem_cons_of_mem _ hc)) h2⟩
  | e :: p, d, r, [], _, _, _, h => by simp [cmpN] at h
  | e :: p, d, r, c :: b, hr, hb, h1, h2 => by
    simp only [List.cons_append, cmpN] at h1 h2 ⊢
    by_cases k1 : c < e
    · simp [k1] at h2
    · by_cases k2 : e < c
      · simp [k1, k2] at h1
      · obtain rfl : c = e := by omega
        simp only [Nat.lt_irrefl, if_false] at h1 h2
        rw [List.cons_prefix_cons]
        exact ⟨rfl, pre_between p d r b hr (fun c hc => hb c (List.mem_cons_of_mem _ hc)) h1 h2⟩
/-- Bytes, laid out at the last byte below 255. -/
theorem last_split {l : List Nat} {q : Nat} (h : Last l q) (h0 : q ≠ 0) : ∃ p d r, l = p ++ d :: r ∧ p.length = q - 1 ∧ (∀ c ∈ r, c = 255) ∧ afterOf l q = p ++ [d + 1] ∧ d < 255 := by
  obtain ⟨h1, h2, h3⟩ := h
  have hd : l.getD (q - 1) 0 < 255 := by rcases h3 with h | h; · exact absurd h h0
                                         · exact h
  have hlt : q - 1 < l.length := by omega
  have hg : l.getD (q - 1) 0 = l[q - 1]'hlt := by simp [List.getD, List.getElem?_eq_getElem hlt]
  refine ⟨l.take (q - 1), l.getD (q - 1) 0, l.drop q, ?_, by rw [List.length_take]; omega, fun c hc => ?_, ?_, hd⟩
  · rw [hg]
    have hdr : l.drop (q - 1) = l[q - 1]'hlt :: l.drop q := by
      rw [List.drop_eq_getElem_cons hlt, show q - 1 + 1 = q by omega]
    rw [← hdr, List.take_append_drop]
  · obtain ⟨i, hi, rfl⟩ := List.getElem_of_mem hc
    rw [List.getElem_drop]
    rw [List.length_drop] at hi
    have := h2 (q + i) (by omega) (by omega)
    simpa [List.getD, List.getElem?_eq_getElem (show q + i < l.length by omega)] using this
  · unfold afterOf
    have ht : l.take q = l.take (q - 1) ++ [l[q - 1]'hlt] := by
      conv => lhs; rw [show q = q - 1 + 1 by omega, List.take_add_one, List.getElem?_eq_getElem hlt]
      rfl
    have hz : ∀ (p : List Nat) (x y : Nat) (k : Nat), p.length = k → (p ++ [x]).set k y = p ++ [y] := fun p x y k e => by subst e; simp
    rw [ht, hz _ _ _ _ (by rw [List.length_take]; omega)]
theorem after_above {l m : List Nat} {q : Nat} (h : Last l q) (h0 : q ≠ 0) : cmpN (l ++ m) (afterOf l q) = -1 := by
  obtain ⟨p, d, r, h1, _, _, h4, _⟩ := last_split h h0
  rw [h4]
  conv => lhs; rw [h1]
  rw [List.append_assoc, List.cons_append]
  exact cmp_pre p d (r ++ m)
theorem between_begins {l m : List Nat} {q : Nat} (h : Last l q) (h0 : q ≠ 0) (hm : ∀ c ∈ m, c < 256) (h1 : cmpN m (afterOf l q) = -1) (h2 : cmpN m l ≠ -1) : l <+: m := by
  obtain ⟨p, d, r, e1, _, hr, e4, _⟩ := last_split h h0
  rw [e4] at h1
  rw [e1] at h2 ⊢
  exact pre_between p d r m hr hm h1 h2
theorem prefix_iff {l m : List Nat} : m <+: l ↔ m.length ≤ l.length ∧ l.take m.length = m := by
  constructor
  · intro h
    exact ⟨h.length_le, (List.prefix_iff_eq_take.1 h).symm⟩
  · rintro ⟨_, h⟩
    rw [← h]
    exact List.take_prefix _ _
theorem slice_upto (a : Option Addr) (n c j : Nat) (h : j ≤ c) : ∀ V', (Instr.slice 22 (.slice a n c) none (some (.int .i64 (j : Int))) none).run Tryd.prog V' = .ok (.slice a j c) V' := by
  intro V'
  cases a <;> simp [go_sem, Tryd.underlying22, h]
set_option maxHeartbeats 1000000 in
theorem begins_any {w : World} {a b : Option Addr} {l m : List Nat} {n k c d : Nat} (ha : BytesAt w a l) (hb : BytesAt w b m) (hl : l.length = n) (hm : m.length = k) (hc : n ≤ c) :
    Calls Tryd.prog 11 #[.slice a n c, .slice b k d] w fun e w' => e = .returned (.bool (decide (m <+: l))) ∧ Below w.heap.size w w' := by
  have HB := Lib.hid (Below.drew (Below.refl w.heap.size w))
  by_cases hk : k ≤ n
  · have k1 := conv_any (w := w.drew) (bytes_take ha k) (k := k) (by rw [List.length_take]; omega) c
    have k2 := conv_any (w := w.drew) hb hm d
    have hkc : k ≤ c := by omega
    have hsl := slice_upto a n c k hkc
    have hg : decide ((k : Int) ≤ (n : Int)) = true := decide_eq_true (by omega)
    by_cases he : l.take k = m
    · have hd : decide (m <+: l) = true := decide_eq_true (prefix_iff.2 ⟨by omega, by rw [hm]; exact he⟩)
      rw [he] at k1
      rw [hd]
      obtain ⟨s, hs⟩ : ∃ s, s = str m := ⟨_, rfl⟩
      rw [← hs] at k1 k2
      clear hs ha hb hl hm hd he
      go_enter Tryd.func11, Tryd.ntmps11
      go_wp2
      go_region
      go_wp2
      go_ret
      exact ⟨rfl, HB.out⟩
    · have hd : decide (m <+: l) = false := decide_eq_false (fun h => he (by have := (prefix_iff.1 h).2; rwa [hm] at this))
      rw [hd]
      have hne : ((str (l.take k)).toList == (str m).toList) = false := by
        rw [str_eq (bytes_take ha k).1 hb.1]
        exact decide_eq_false (fun h => he ((cmp_zero _ _).1 h))
      obtain ⟨s, hs⟩ : ∃ s, s = str (l.take k) := ⟨_, rfl⟩
      obtain ⟨t, ht⟩ : ∃ t, t = str m := ⟨_, rfl⟩
      rw [← hs] at k1 hne
      rw [← ht] at k2 hne
      clear hs ht ha hb hl hm hd he
      go_enter Tryd.func11, Tryd.ntmps11
      go_wp2
      go_region
      go_wp2
      go_ret
      exact ⟨rfl, HB.out⟩
  · have hd : decide (m <+: l) = false := decide_eq_false (fun h => hk (by have := h.length_le; omega))
    rw [hd]
    have hg : decide ((k : Int) ≤ (n : Int)) = false := decide_eq_false (by omega)
    clear hd ha hb hl hm
    go_enter Tryd.func11, Tryd.ntmps11
    go_wp2
    go_region
    go_wp2
    go_ret
    exact ⟨rfl, HB.out⟩
end Go.Proofs.YtpbdchcocadnkaaDoor

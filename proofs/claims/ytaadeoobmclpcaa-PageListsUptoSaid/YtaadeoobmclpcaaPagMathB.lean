/- What a sealed page bears; a bit of it turned. -/
import Derived.Test.YtaadeoobmclpcaaPagMath
namespace Go.Proofs.Ytaadeoobmclpcaa

theorem sumOf_lt {p : List Nat} (hz : ∀ c ∈ p, c < 256) (x : Nat) : sumOf p x < 4294967296 := more_lt (by decide) _ (fun c hc => lay_bytes 4 x hz 8 c (List.mem_of_mem_drop hc))
theorem sealed_good {p : List Nat} (hz : ∀ c ∈ p, c < 256) (hg : Good p) (x : Nat) : Good (sealed p x) := by
  have hl : 26 ≤ p.length := by have := hg.1; omega
  rw [sealed_is hz hl]
  refine good_congr (stamped_length _ _ _) (drop_ext (stamped_length _ _ _) 13 (fun j hj => ?_)) hg
  rw [stamped_get _ _ _ hl, if_neg (by omega), if_neg (by omega)]
theorem sealed_bytes {p : List Nat} (hz : ∀ c ∈ p, c < 256) (hl : 26 ≤ p.length) (x : Nat) : ∀ c ∈ sealed p x, c < 256 := by
  rw [sealed_is hz hl]
  exact stamped_bytes hz _ _
theorem sealed_sum {p : List Nat} (hz : ∀ c ∈ p, c < 256) (hl : 26 ≤ p.length) (x : Nat) : rd (sealed p x) 0 4 = more 0 ((sealed p x).drop 4) := by
  rw [sealed_is hz hl, stamped_drop _ _ _ hl]
  refine rd_is (stamped_bytes hz _ _) 0 4 _ (by rw [stamped_length]; omega) (sumOf_lt hz x) (fun i hi => ?_)
  rw [stamped_get _ _ _ hl, if_pos (by omega)]
  simp
  rfl
theorem sealed_lsn {p : List Nat} (hz : ∀ c ∈ p, c < 256) (hl : 26 ≤ p.length) (x : Nat) (hx : x < 18446744073709551616) : rd (sealed p x) 4 8 = x := by
  rw [sealed_is hz hl]
  refine rd_is (stamped_bytes hz _ _) 4 8 _ (by rw [stamped_length]; omega) hx (fun i hi => ?_)
  rw [stamped_get _ _ _ hl, if_neg (by omega), if_pos (by omega), Nat.add_sub_cancel_left]
theorem sealed_kind {p : List Nat} (hz : ∀ c ∈ p, c < 256) (hl : 26 ≤ p.length) (x : Nat) : (sealed p x).getD 12 0 = p.getD 12 0 := by
  rw [sealed_is hz hl, stamped_get _ _ _ hl, if_neg (by omega), if_neg (by omega)]
theorem xor_pow_ne (n k : Nat) : n ^^^ 2 ^ k ≠ n := by
  intro h
  have h1 := congrArg (n ^^^ ·) h
  simp only [xor_cancel, Nat.xor_self] at h1
  have := Nat.two_pow_pos k
  omega
set_option maxRecDepth 100000 in
theorem one_bit : ∀ m : Fin 512, ∀ t : Fin 8, ¬ (26 + 4 * rd (noughts.set m.val (2 ^ t.val)) 14 2 ≤ rd (noughts.set m.val (2 ^ t.val)) 16 2 ∧ rd (noughts.set m.val (2 ^ t.val)) 16 2 ≤ 512 ∧ rd (noughts.set m.val (2 ^ t.val)) 0 4 = more 0 ((noughts.set m.val (2 ^ t.val)).drop 4)) := by
  decide +kernel
theorem noughts_get (m : Nat) : noughts.getD m 0 = 0 := by
  rw [noughts, List.getD_eq_getElem?_getD, List.getElem?_replicate]
  split <;> rfl
theorem xor_zero_eq {a b : Nat} (h : a ^^^ b = 0) : a = b := by
  have := congrArg (a ^^^ ·) h
  simp only [xor_cancel, Nat.xor_zero] at this
  exact this.symm
theorem take_set (l : List Nat) (n i v : Nat) : (l.set i v).take n = (l.take n).set i v := by rw [List.take_set]
/-- Of a good page with the right sum a bit is turned: it may not have been read. -/
theorem flipped {q : List Nat} (hz : ∀ c ∈ q, c < 256) (hg : Good q) (hs : rd q 0 4 = more 0 (q.drop 4)) (m t : Nat) (hm : m < 512) (ht : t < 8) (e : Int) (he : checkOf (q.set m (q.getD m 0 ^^^ 2 ^ t)) e) : e ≠ 0 := by
  have hl := hg.1
  have hd : q.getD m 0 = q[m]'(by omega) := by rw [List.getD_eq_getElem?_getD, List.getElem?_eq_getElem (by omega)]; rfl
  have hv : q.getD m 0 ^^^ 2 ^ t < 256 := by
    refine Nat.xor_lt_two_pow (n := 8) ?_ (Nat.pow_lt_pow_right (by omega) ht)
    rw [hd]; exact hz _ (List.getElem_mem _)
  rcases he with ⟨h0, rfl⟩ | ⟨_, _, rfl⟩ | ⟨_, _, _, rfl⟩ | ⟨_, _, h4, rfl⟩
  · exfalso
    have hx : q.getD m 0 ^^^ 2 ^ t = 0 := by
      have := congrArg (fun l => l.getD m 0) h0
      simp only [getD_set _ _ _ _ (show m < q.length by omega), if_pos] at this
      rw [this, noughts_get]
    have hq : q = noughts.set m (2 ^ t) := by
      rw [← h0, List.set_set, ← xor_zero_eq hx, hd, List.set_getElem_self]
    have := one_bit ⟨m, hm⟩ ⟨t, ht⟩
    simp only [← hq] at this
    exact this ⟨hg.2.2.1, hg.2.2.2.1, hs⟩
  · decide
  · decide
  · exfalso
    by_cases h : m < 4
    · rw [show (q.set m (q.getD m 0 ^^^ 2 ^ t)).drop 4 = q.drop 4 from by rw [List.drop_set, if_pos h], ← hs] at h4
      unfold rd at h4
      rw [List.drop_zero, List.drop_zero, take_set] at h4
      have hb : ∀ c ∈ q.take 4, c < 256 := fun c hc => hz c (List.mem_of_mem_take hc)
      have hk : m < (q.take 4).length := by rw [List.length_take]; omega
      have e1 : q.getD m 0 = (q.take 4)[m]'hk := by rw [hd, List.getElem_take]
      rw [e1, num_set (q.take 4) m t hk hb ht] at h4
      exact xor_pow_ne _ _ h4
    · have hk : m - 4 < (q.drop 4).length := by rw [List.length_drop]; omega
      have hb : ∀ c ∈ q.drop 4, c < 256 := fun c hc => hz c (List.mem_of_mem_drop hc)
      have e1 : q.getD m 0 = (q.drop 4)[m - 4]'hk := by
        rw [hd, List.getElem_drop]; congr 1; omega
      have e2 : (q.set m (q.getD m 0 ^^^ 2 ^ t)).drop 4 = (q.drop 4).set (m - 4) (q.getD m 0 ^^^ 2 ^ t) := by rw [List.drop_set, if_neg h]
      have e3 : rd (q.set m (q.getD m 0 ^^^ 2 ^ t)) 0 4 = rd q 0 4 := by
        unfold rd
        rw [List.drop_zero, List.drop_zero, List.take_set_of_le (by omega)]
      rw [e3, e2, hs] at h4
      have hn := num_set (q.drop 4) (m - 4) t hk hb ht
      rw [← e1] at hn
      have hb2 : ∀ c ∈ (q.drop 4).set (m - 4) (q.getD m 0 ^^^ 2 ^ t), c < 256 := fun c hc => by
        rcases List.mem_or_eq_of_mem_set hc with h' | h'
        · exact hb c h'
        · rw [h']; exact hv
      have := (more_tells (l := q.drop 4) (m := (q.drop 4).set (m - 4) (q.getD m 0 ^^^ 2 ^ t)) (k := 8 * (m - 4) + t) (d := 1) (by rw [List.length_set]) hb hb2 (by decide) (by omega) (by rw [hn, Nat.mul_one]) 0).1 h4
      rw [← this] at hn
      exact xor_pow_ne _ _ hn.symm
end Go.Proofs.Ytaadeoobmclpcaa

/- The document's own Compare: contract. -/
import Derived.Test.YtpbdchcocadnkaaDoorKeyCmp
import Derived.Test.YtpbdchcocadnkaaDoorKeyIs
namespace Go.Proofs.YtpbdchcocadnkaaDoor
open Go.ChangeShapes Go.WideShapes Go.ChangeAt Go.RowKit

theorem cmp_turn : ∀ (l m : List Nat), cmpN m l = -cmpN l m
  | [], [] => rfl
  | [], _ :: _ => rfl
  | _ :: _, [] => rfl
  | a :: x, b :: y => by
    have ih := cmp_turn x y
    simp only [cmpN]
    by_cases h1 : a < b
    · have h2 : ¬ b < a := by omega
      simp [h1, h2]
    · by_cases h2 : b < a
      · simp [h1, h2]
      · simp [h1, h2, ih]
theorem map_u8 : ∀ (l m : List Nat), (∀ c ∈ l, c < 256) → (∀ c ∈ m, c < 256) → l.map UInt8.ofNat = m.map UInt8.ofNat → l = m
  | [], [], _, _, _ => rfl
  | [], _ :: _, _, _, h => by simp at h
  | _ :: _, [], _, _, h => by simp at h
  | a :: x, b :: y, hl, hm, h => by
    simp only [List.map_cons, List.cons.injEq] at h
    rw [(u8_eq (hl a (List.mem_cons_self ..)) (hm b (List.mem_cons_self ..))).1 h.1, map_u8 x y (fun c hc => hl c (List.mem_cons_of_mem _ hc)) (fun c hc => hm c (List.mem_cons_of_mem _ hc)) h.2]
theorem str_eq {l m : List Nat} (hl : ∀ c ∈ l, c < 256) (hm : ∀ c ∈ m, c < 256) : ((str l).toList == (str m).toList) = decide (cmpN l m = 0) := by
  have e : ∀ x : List Nat, (str x).toList = x.map UInt8.ofNat := fun x => by
    simp [str, ByteArray.toList_eq]
  rw [e, e]
  by_cases h : l = m
  · subst h
    rw [beq_self_eq_true, eq_comm, decide_eq_true_iff]
    exact (cmp_zero l l).2 rfl
  · rw [decide_eq_false (fun h' => h ((cmp_zero l m).1 h'))]
    exact beq_eq_false_iff_ne.2 (fun h' => h (map_u8 l m hl hm h'))
theorem refcompare_any {w : World} {a b : Option Addr} {l m : List Nat} {n k c d : Nat} (ha : BytesAt w a l) (hb : BytesAt w b m) (hl : l.length = n) (hm : m.length = k) :
    Calls Tryd.prog 10 #[.slice a n c, .slice b k d] w fun e w' => e = .returned (.int .i64 (cmpN l m)) ∧ w = w' := by
  have k1 := conv_any ha hl c
  have k2 := conv_any hb hm d
  have e1 := str_less ha.1 hb.1
  have e2 := str_less hb.1 ha.1
  have e3 := str_eq ha.1 hb.1
  have ht := cmp_turn l m
  rcases cmp_vals l m with h | h | h
  all_goals
    rw [h] at ht
    rw [h] at e1 e3 ⊢
    rw [ht] at e2
    obtain ⟨s, hs⟩ : ∃ s, s = str l := ⟨_, rfl⟩
    obtain ⟨t, ht⟩ : ∃ t, t = str m := ⟨_, rfl⟩
    rw [← hs] at k1 e1 e2 e3
    rw [← ht] at k2 e1 e2 e3
    simp only [show ¬ ((0 : Int) = -1) by omega, show ¬ ((1 : Int) = -1) by omega, show ¬ ((1 : Int) = 0) by omega, show ¬ ((-1 : Int) = 0) by omega, show ¬ (-(0 : Int) = -1) by omega, show ¬ (-(-1 : Int) = -1) by omega, decide_true, decide_false] at e1 e2 e3
    clear hs ht ha hb hl hm h
    go_enter Tryd.func10, Tryd.ntmps10
    go_wp2
    go_ret
    exact ⟨rfl, rfl⟩
end Go.Proofs.YtpbdchcocadnkaaDoor

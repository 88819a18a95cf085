/- What is above all that begin with some bytes: the document's own answer. -/
import Derived.Test.YtpbdchcocadnkaaDoorKeyAft
namespace Go.Proofs.YtpbdchcocadnkaaDoor
open Go.ChangeShapes Go.WideShapes Go.ChangeAt Go.RowKit

set_option maxHeartbeats 2000000 in
set_option maxRecDepth 20000 in
theorem refafter_any {w : World} {b : Option Addr} {l : List Nat} {n c m : Nat} (hb : BytesAt w b l) (hl : l.length = n) (hn : n ≤ 140737488351232) (hc : n ≤ c) (hL : Last l m) :
    Calls Tryd.prog 7 #[.slice b n c] w (AftOut w l m) := by
  have HR := Lib.hid rowyU
  have HL := Lib.hid hL
  have HC := Lib.hid hc
  have HN := Lib.hid hl
  have HB := Lib.hid hb
  have hmn : m ≤ n := by rw [← hl]; exact hL.1
  generalize hQ : AftOut w l m = Q
  have HQ := Lib.hid hQ
  clear hQ hL hb hl hc
  go_enter Tryd.func7, Tryd.ntmps7
  go_wp2
  go_loopw [4] (fun i wr => ∃ k : Nat, m ≤ k ∧ k ≤ n ∧ i = .int .i64 (k : Int) ∧ wr = w) (fun i _ => (intOf i).toNat)
  case atStart => exact ⟨n, by omega, by omega, by go_num, rfl⟩
  case round =>
    obtain ⟨k, hmk, hkn, rfl, rfl⟩ := hrel
    by_cases hm : m < k
    · obtain ⟨bb, off, rfl, hc, hz⟩ := byte_at HB.out HN.out (k - 1) (by omega)
      have h255 : l.getD (k - 1) 0 = 255 := HL.out.2.1 (k - 1) (by omega) (by rw [HN.out]; omega)
      rw [h255] at hc
      go_wp2
      go_roundw
      case rel => exact ⟨k - 1, by omega, by omega, by go_num, trivial⟩
      case measure => simp [intOf]; omega
    · obtain rfl : m = k := by omega
      by_cases h0 : m = 0
      · subst h0
        go_wp2
        rw [← HQ.out]
        exact ⟨rfl, Below.refl _ _⟩
      · obtain ⟨bb, off, rfl, hc, hz⟩ := byte_at HB.out HN.out (m - 1) (by omega)
        have h255 : l.getD (m - 1) 0 < 255 := by rcases HL.out.2.2 with h | h; · omega
                                                 · exact h
        obtain ⟨d, hd⟩ : ∃ d, d = l.getD (m - 1) 0 := ⟨_, rfl⟩
        rw [← hd] at hc hz h255
        have HD := Lib.hid hd
        clear hd
        have hcap : n ≤ c := HC.out
        have hwr : IntKind.i64.wrap (m : Int) = (m : Int) := IntWalk.i64_in _ (by omega)
        have hmc : m ≤ c := by omega
        have hne : ¬ ((d : Int) = 255) := by omega
        have HZ : Hid (∀ x ∈ l, x < 256) := Lib.hid HB.out.1
        have HT : Hid ((l.take m).length = m) := Lib.hid (by rw [List.length_take, HN.out]; omega)
        have HSR : Hid (_root_.Go.Src Tryd.prog 1 22 (.slice (some ⟨bb, off, none⟩) m c) m (u8s (l.take m)) wr) := Lib.hid (bytes_src (l := l.take m) Tryd.underlying22 (bytes_take HB.out m) HT.out)
        have HFIN : Hid (∀ w8 a8 c8 b8, Slc w8 b8 1 (.slice a8 m c8) m (u8s [] ++ u8s (l.take m)) → Turned (fun k => none = some k) wr w8 → (b8 = none ∨ b8 = some wr.heap.size) → ∃ b o, a8 = some ⟨b, o, none⟩ ∧ w8.cell? ⟨b, o + (m - 1), none⟩ = some (.int .u8 (d : Int)) ∧ w8.frozen? ⟨b, o + (m - 1), none⟩ = false ∧ m ≤ c8 ∧ Hid (Own wr (w8.setCell ⟨b, o + (m - 1), none⟩ (.int .u8 ((d : Int) + 1))) (some ⟨b, o, none⟩) m c8 (afterOf l m)) ∧ Hid (Below wr.heap.size wr (w8.setCell ⟨b, o + (m - 1), none⟩ (.int .u8 ((d : Int) + 1))))) := Lib.hid (fun w8 a8 c8 b8 h1 h2 h3 => by
          obtain ⟨ho8, hb8⟩ := own_more (l := []) (m := l.take m) (W := wr) (w := wr) rfl (by rw [HT.out]; exact Nat.zero_add _) (by simp) (fun x hx => HZ.out x (List.mem_of_mem_take hx)) (Below.refl _ _) (fun b e => by cases e) h1 h2 h3
          rw [List.nil_append] at ho8
          obtain ⟨b8, o8, rfl, hx8, _⟩ := byte_at (own_bytes ho8) HT.out (m - 1) (by omega)
          have hdm : (l.take m).getD (m - 1) 0 = d := by rw [HD.out]; simp [List.getD, show m - 1 < m by omega]
          rw [hdm] at hx8
          have hf8 : w8.frozen? ⟨b8, o8 + (m - 1), none⟩ = false := own_frozen ho8 (m - 1) (by omega)
          have hm8 : m ≤ c8 := own_cap ho8
          have HO8 : Hid (Own wr (w8.setCell ⟨b8, o8 + (m - 1), none⟩ (.int .u8 ((d : Int) + 1))) (some ⟨b8, o8, none⟩) m c8 (afterOf l m)) := Lib.hid (by
            have h := own_set ho8 (m - 1) (d + 1) (by omega) (by omega)
            unfold afterOf
            rw [← HD.out]
            exact h)
          have HB8 : Hid (Below wr.heap.size wr (w8.setCell ⟨b8, o8 + (m - 1), none⟩ (.int .u8 ((d : Int) + 1)))) := Lib.hid (hb8.setCell (by
            have h := ho8
            obtain ⟨_, _, bo, hs, hbo⟩ := h
            obtain ⟨ao, cap, e0, _, _, _, hh⟩ := slc_form hs
            cases e0
            obtain ⟨b9, o9, e1, e2⟩ := hh (by omega)
            cases e2
            exact hbo _ e1) _)
          exact ⟨b8, o8, rfl, hx8, hf8, hm8, HO8, HB8⟩)
        go_wp2_with (at_builtin; refine wpList_slc HR.out rfl (.tmp 22) (.tmp 25) 22 rfl rfl rfl (slc_nil _ _) HSR.out (by omega : 0 + m = m) (by unfold maxLen; omega) (by omega) ?_; intro a8 c8 b8 w8 h1 h2 h3; obtain ⟨bx, ox, rfl, hx8, hf8, hm8, HO8, HB8⟩ := HFIN.out w8 a8 c8 b8 h1 h2 h3; clear h1 h2 h3)
        rw [← HQ.out]
        refine ⟨?_, HB8.out⟩
        rw [if_neg h0]
        exact ⟨_, _, rfl, HO8.out⟩
end Go.Proofs.YtpbdchcocadnkaaDoor

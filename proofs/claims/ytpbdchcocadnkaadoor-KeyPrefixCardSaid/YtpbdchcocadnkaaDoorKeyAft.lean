/- What is above all that begin with some bytes: contract of After. -/
import Derived.Test.YtpbdchcocadnkaaDoorKeyRefC
namespace Go.Proofs.YtpbdchcocadnkaaDoor
open Go.ChangeShapes Go.WideShapes Go.ChangeAt Go.RowKit

theorem own_frozen {W w : World} {b off n c : Nat} {l : List Nat} (h : Own W w (some ⟨b, off, none⟩) n c l) (j : Nat) (hj : j < n) : w.frozen? ⟨b, off + j, none⟩ = false := by
  obtain ⟨h1, h2, bo, h3, h4⟩ := h
  rcases h3.2.2 with ⟨_, e, _⟩ | ⟨b', off', cap, e1, e2, e3, e4, e5, e6, e7⟩
  · cases e
  · simp only [Value.slice.injEq, Option.some.injEq, Addr.mk.injEq, and_true, true_and] at e2
    obtain ⟨⟨rfl, rfl⟩, rfl⟩ := e2
    exact (e7 j (by omega)).2
theorem bytes_take {w : World} {a : Option Addr} {l : List Nat} (h : BytesAt w a l) (m : Nat) : BytesAt w a (l.take m) := bytes_prefix (m := l.drop m) (by rw [List.take_append_drop]; exact h)
/-- What After tells. -/
def AftOut (w : World) (l : List Nat) (m : Nat) (e : Ending) (w' : World) : Prop := (if m = 0 then e = .returned (.tuple #[.slice none 0 0, .bool false]) else ∃ a c, e = .returned (.tuple #[.slice a m c, .bool true]) ∧ Own w w' a m c (afterOf l m)) ∧ Below w.heap.size w w'
set_option maxHeartbeats 2000000 in
set_option maxRecDepth 20000 in
theorem after_any {w : World} {b : Option Addr} {l : List Nat} {n c m : Nat} (hb : BytesAt w b l) (hl : l.length = n) (hn : n ≤ 140737488351232) (hc : n ≤ c) (hL : Last l m) :
    Calls Tryd.prog 6 #[.slice b n c] w (AftOut w l m) := by
  have HR := Lib.hid rowyU
  have HL := Lib.hid hL
  have HC := Lib.hid hc
  have HN := Lib.hid hl
  have HB := Lib.hid hb
  have hmn : m ≤ n := by rw [← hl]; exact hL.1
  generalize hQ : AftOut w l m = Q
  have HQ := Lib.hid hQ
  clear hQ hL hb hl hc
  go_enter Tryd.func6, Tryd.ntmps6
  go_wp2
  go_loopw [4] (fun i wr => ∃ k : Nat, m ≤ k ∧ k ≤ n ∧ i = .int .i64 ((k : Int) - 1) ∧ wr = w) (fun i _ => (1 + intOf i).toNat)
  case atStart => exact ⟨n, by omega, by omega, by go_num, rfl⟩
  case round =>
    obtain ⟨k, hmk, hkn, rfl, rfl⟩ := hrel
    by_cases hm : m < k
    · obtain ⟨bb, off, rfl, hc, hz⟩ := byte_at HB.out HN.out (k - 1) (by omega)
      have h255 : l.getD (k - 1) 0 = 255 := HL.out.2.1 (k - 1) (by omega) (by rw [HN.out]; omega)
      rw [h255] at hc
      go_wp2
      go_roundw
      case rel => exact ⟨k - 1, by omega, by omega, by go_num, trivial⟩
      case measure => simp [intOf]; omega
    · obtain rfl : m = k := by omega
      by_cases h0 : m = 0
      · subst h0
        go_wp2
        rw [← HQ.out]
        exact ⟨rfl, Below.refl _ _⟩
      · obtain ⟨bb, off, rfl, hc, hz⟩ := byte_at HB.out HN.out (m - 1) (by omega)
        have h255 : l.getD (m - 1) 0 < 255 := by rcases HL.out.2.2 with h | h; · omega
                                                 · exact h
        obtain ⟨d, hd⟩ : ∃ d, d = l.getD (m - 1) 0 := ⟨_, rfl⟩
        rw [← hd] at hc hz h255
        have HD := Lib.hid hd
        clear hd
        have hcap : n ≤ c := HC.out
        obtain ⟨i0, hii, hz0, hz1, hz2⟩ := info_parts info5
        have hbt : i0.bytes * m ≤ 281474976710656 := by rw [hz2]; omega
        obtain ⟨w2, hmk0, ho2, hg2⟩ := run_make_own (P := Tryd.prog) wr.drew (wr.heap.size) 22 5 i0 (.int .u8 0) 1 Tryd.underlying22 hii hz0 hz1 .i64 .i64 m hbt (by unfold maxLen; omega) (Nat.le_refl _)
        have hw1 : (m : Int) - 1 + 1 = (m : Int) := by omega
        have hwr : IntKind.i64.wrap (m : Int) = (m : Int) := IntWalk.i64_in _ (by omega)
        have hmc : m ≤ c := by omega
        have hmk : (Instr.makeSlice 22 (.int .i64 0) (.int .i64 (m : Int))).run Tryd.prog wr.drew = .ok (.slice (some ⟨wr.drew.heap.size, 0, none⟩) 0 m) w2 := hmk0
        have HM2 := Lib.hid ho2
        have HG2 := Lib.hid hg2
        have HZ : Hid (∀ x ∈ l, x < 256) := Lib.hid HB.out.1
        clear hmk0 ho2 hg2 hii hz0 hz1 hz2 hbt
        go_wp2
        have HS0 : Hid (Slc w2 (some wr.heap.size) 1 (.slice (some ⟨wr.heap.size, 0, none⟩) 0 m) 0 (u8s [])) := Lib.hid (own_start wr wr.drew (Below.drew (Below.refl _ _)) HM2.out HG2.out).1
        have HB2 : Hid (Below wr.heap.size wr w2) := Lib.hid (own_start wr wr.drew (Below.drew (Below.refl _ _)) HM2.out HG2.out).2.1
        have HSR : Hid (_root_.Go.Src Tryd.prog 1 22 (.slice (some ⟨bb, off, none⟩) m c) m (u8s (l.take m)) w2) := Lib.hid (bytes_src (l := l.take m) Tryd.underlying22 (bytes_below (bytes_take HB.out m) HB2.out) (by rw [List.length_take, HN.out]; omega))
        go_region_law (refine step_slc HR.out rfl (.tmp 20) (.tmp 24) 22 rfl (by simp [Act.eval]) (by simp [Act.eval]) HS0.out HSR.out (by omega : 0 + m = m) (by unfold maxLen; omega) (by omega) ?_; intro a8 c8 b8 w8 h1 h2 h3)
        have HT : Hid ((l.take m).length = m) := Lib.hid (by rw [List.length_take, HN.out]; omega)
        obtain ⟨ho8, hb8⟩ := own_more (l := []) (m := l.take m) (W := wr) (w := w2) rfl (by rw [HT.out]; exact Nat.zero_add _) (by simp) (fun x hx => HZ.out x (List.mem_of_mem_take hx)) HB2.out (fun b e => by cases e; exact Nat.le_refl _) h1 h2 h3
        rw [List.nil_append] at ho8
        obtain ⟨b8, o8, rfl, hx8, _⟩ := byte_at (own_bytes ho8) HT.out (m - 1) (by omega)
        have hdm : (l.take m).getD (m - 1) 0 = d := by rw [HD.out]; simp [List.getD, show m - 1 < m by omega]
        rw [hdm] at hx8
        have hf8 : w8.frozen? ⟨b8, o8 + (m - 1), none⟩ = false := own_frozen ho8 (m - 1) (by omega)
        have hm8 : m ≤ c8 := own_cap ho8
        have HO8 : Hid (Own wr (w8.setCell ⟨b8, o8 + (m - 1), none⟩ (.int .u8 ((d : Int) + 1))) (some ⟨b8, o8, none⟩) m c8 (afterOf l m)) := Lib.hid (by
          have h := own_set ho8 (m - 1) (d + 1) (by omega) (by omega)
          unfold afterOf
          rw [← HD.out]
          exact h)
        have HB8 : Hid (Below wr.heap.size wr (w8.setCell ⟨b8, o8 + (m - 1), none⟩ (.int .u8 ((d : Int) + 1)))) := Lib.hid (hb8.setCell (by
          have h := ho8
          obtain ⟨_, _, bo, hs, hbo⟩ := h
          obtain ⟨ao, cap, e0, _, _, _, hh⟩ := slc_form hs
          cases e0
          obtain ⟨b9, o9, e1, e2⟩ := hh (by omega)
          cases e2
          exact hbo _ e1) _)
        clear h1 h2 h3 ho8 hb8 hdm
        go_wp2
        rw [← HQ.out]
        refine ⟨?_, HB8.out⟩
        rw [if_neg h0]
        exact ⟨_, _, rfl, HO8.out⟩
end Go.Proofs.YtpbdchcocadnkaaDoor

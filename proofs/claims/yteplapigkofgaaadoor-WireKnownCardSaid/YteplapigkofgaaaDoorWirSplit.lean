/- Frames at a row's beginning, one behind the other: contracts of Split and of the document's Split. -/
import Derived.Test.YteplapigkofgaaaDoorWirRef
namespace Go.Proofs.YteplapigkofgaaaDoor
open Go.ChangeShapes Go.WideShapes Go.ChangeAt Go.RowKit

/-- Frames, one behind the other: how many, how many bytes behind them, the error there. -/
inductive Splits : List Nat → Nat → Nat → Nat → Nat → Prop
  | done (zs : List Nat) (k : Nat) (h : zs.length = 0) : Splits zs k k 0 0
  | stop (zs : List Nat) (k : Nat) (h : ¬ zs.length = 0) (he : ¬ (headOf zs).2 = 0) : Splits zs k k zs.length (headOf zs).2
  | more (zs : List Nat) (k x y z : Nat) (h : ¬ zs.length = 0) (he : (headOf zs).2 = 0) (hs : Splits (zs.drop (headOf zs).1) (k + 1) x y z) : Splits zs k x y z
theorem head_pos {zs : List Nat} (h : (headOf zs).2 = 0) : ∃ s, (headOf zs).1 = 4 + s + 4 ∧ 4 + s + 4 ≤ zs.length := by
  unfold headOf at h ⊢
  split at h
  · exact absurd h (by decide)
  split at h
  · exact absurd h (by decide)
  split at h
  · exact absurd h (by decide)
  split at h
  · exact absurd h (by decide)
  split at h
  · rename_i c1 c2 c3 c4 c5
    rw [if_neg c1, if_neg c2, if_neg c3, if_neg c4, if_pos c5]
    exact ⟨_, rfl, by omega⟩
  · exact absurd h (fun h => by cases h)
theorem splits_all : ∀ (n : Nat) (zs : List Nat) (k : Nat), zs.length ≤ n → ∃ x y z, Splits zs k x y z
  | 0, zs, k, h => ⟨_, _, _, .done zs k (by omega)⟩
  | n + 1, zs, k, h => by
    by_cases h0 : zs.length = 0
    · exact ⟨_, _, _, .done zs k h0⟩
    by_cases he : (headOf zs).2 = 0
    · obtain ⟨s, h1, h2⟩ := head_pos he
      obtain ⟨x, y, z, hs⟩ := splits_all n (zs.drop (headOf zs).1) (k + 1) (by rw [List.length_drop]; omega)
      exact ⟨x, y, z, .more zs k x y z h0 he hs⟩
    · exact ⟨_, _, _, .stop zs k h0 he⟩
theorem splits_empty {zs : List Nat} {k x y z : Nat} (h : Splits zs k x y z) (h0 : zs.length = 0) : x = k ∧ y = 0 ∧ z = 0 := by
  cases h <;> first | exact ⟨rfl, rfl, rfl⟩ | contradiction
theorem splits_stop {zs : List Nat} {k x y z : Nat} (h : Splits zs k x y z) (h0 : ¬ zs.length = 0) (he : ¬ (headOf zs).2 = 0) : x = k ∧ y = zs.length ∧ z = (headOf zs).2 := by
  cases h <;> first | exact ⟨rfl, rfl, rfl⟩ | contradiction
theorem splits_more {zs : List Nat} {k x y z : Nat} (h : Splits zs k x y z) (h0 : ¬ zs.length = 0) (he : (headOf zs).2 = 0) : Splits (zs.drop (headOf zs).1) (k + 1) x y z := by
  cases h <;> first | assumption | contradiction
theorem slice_off (a : Option Addr) (n cap j : Nat) (h : j ≤ n) (h' : n ≤ cap) (ha : ∃ b off, a = some ⟨b, off, none⟩) : ∃ a2 c2, (∀ V, (Instr.slice 22 (.slice a n cap) (some (.int .i64 (j : Int))) none none).run Tryd.prog V = .ok (.slice a2 (n - j) c2) V) ∧ n - j ≤ c2 ∧ ∀ V zs, zs.length = n → BytesAt V a zs → BytesAt V a2 (zs.drop j) := by
  obtain ⟨b, off, rfl⟩ := ha
  by_cases e : cap = j
  · refine ⟨some ⟨b, off, none⟩, cap - j, fun V => ?_, by omega, fun V zs hl hs => ?_⟩
    · simp [go_sem, Tryd.underlying22, h, e]
    · rw [List.drop_eq_nil_of_le (by omega)]
      exact ⟨fun c hc => (by cases hc), Nat.zero_le _, fun i hi => absurd hi (Nat.not_lt_zero _)⟩
  · refine ⟨some ⟨b, off + j, none⟩, cap - j, fun V => ?_, by omega, fun V zs hl hs => bytes_sub hs j⟩
    simp [go_sem, Tryd.underlying22, h, e]
set_option maxHeartbeats 1000000 in
set_option maxRecDepth 20000 in
theorem split_any {w : World} {a : Option Addr} {cap n : Nat} {zs : List Nat} (hb : BytesAt w a zs) (hl : zs.length = n) (hcap : n ≤ cap) (hT : TabAt w) {x y z : Nat} (hS : Splits zs 0 x y z) :
    Calls Tryd.prog 8 #[.slice a n cap] w fun e w' => e = .returned (.tuple #[.int .i64 (x : Int), .int .i64 (y : Int), .int .i64 (z : Int)]) ∧ Below w.heap.size w w' := by
  have hn63 : n ≤ 9223372036854775807 := by have := hb.2.1; unfold maxLen at this; omega
  have HB := Lib.hid hb
  have HT := Lib.hid hT
  have HL := Lib.hid hl
  have HS := Lib.hid hS
  generalize hQ : (fun (e : Ending) (w' : World) => e = .returned (.tuple #[.int .i64 (x : Int), .int .i64 (y : Int), .int .i64 (z : Int)]) ∧ Below w.heap.size w w') = Q
  have HQ := Lib.hid hQ
  clear hb hl hT hS hQ
  go_enter Tryd.func8, Tryd.ntmps8
  go_wp2
  go_loopw [0, 2, 5, 6, 7] (fun b k _ _ _ wr => ∃ (kk m c9 : Nat) (a9 : Option Addr) (ys : List Nat), k = .int .i64 (kk : Int) ∧ b = .slice a9 m c9 ∧ m ≤ c9 ∧ kk + m ≤ n ∧ Hid (Below w.heap.size w wr) ∧ Hid (BytesAt wr a9 ys) ∧ Hid (ys.length = m) ∧ Hid (Splits ys kk x y z)) (fun b _ _ _ _ _ => match b with | .slice _ m _ => m | _ => 0)
  case atStart => exact ⟨0, n, cap, a, zs, rfl, rfl, hcap, by omega, Lib.hid (Below.refl _ _), HB, HL, HS⟩
  case round =>
    obtain ⟨kk, m, c9, a9, ys, rfl, rfl, hmc, hkm, HBr, HYr, HLr, HSr⟩ := hrel
    have HF := Lib.hid (frame_any HYr.out HLr.out hmc (tab_below HT.out HBr.out))
    by_cases h0 : m = 0
    · have E := Lib.hid (splits_empty HSr.out (by rw [HLr.out]; exact h0))
      subst h0
      go_wp2
      (try simp only [Exit.inBlock, Exit.then])
      refine bodyPost_ret (results_tmp3 rfl _ _ _) rfl ?_
      rw [← HQ.out]
      obtain ⟨rfl, rfl, rfl⟩ := E.out
      exact ⟨rfl, HBr.out⟩
    · have hpos : 0 < m := by omega
      have hy0 : ¬ ys.length = 0 := by rw [HLr.out]; exact h0
      by_cases he : (headOf ys).2 = 0
      · obtain ⟨s, hs1, hs2⟩ := head_pos he
        rw [HLr.out] at hs2
        obtain ⟨b, off, hab, -⟩ := byte_at HYr.out HLr.out 0 hpos
        obtain ⟨a2, c2, hsl, hc2, hy2⟩ := slice_off a9 m c9 (4 + s + 4) hs2 hmc ⟨b, off, hab⟩
        have HN := splits_more HSr.out hy0 he
        rw [hs1] at HN
        have HN' := Lib.hid HN
        have HFG : Hid (Calls Tryd.prog 14 #[.slice a9 m c9] wr fun e w' => ∃ v, e = .returned (.tuple #[.slice v s s, .int .i64 (4 + (s : Int) + 4), .int .i64 0]) ∧ Below wr.heap.size wr w') := Lib.hid (HF.out.mono fun e w' h => by
          rcases h with ⟨h1, _⟩ | ⟨_, s', h1, _, v, h2, _, h3⟩
          · exact absurd he h1
          · obtain rfl : s' = s := by omega
            exact ⟨v, h2, h3⟩)
        have HSL : Hid (∀ V, (Instr.slice 22 (.slice a9 m c9) (some (.int .i64 (4 + (s : Int) + 4))) none none).run Tryd.prog V = .ok (.slice a2 (m - (4 + s + 4)) c2) V) := Lib.hid (fun V => by
          have h := hsl V
          rwa [show ((4 + s + 4 : Nat) : Int) = 4 + (s : Int) + 4 by omega] at h)
        have HY2 := Lib.hid hy2
        clear hsl hy2 HN hab hy0 he hs1
        go_wp2_with (go_at_call 14; (with_reducible refine HFG.out.mono ?_); rintro e w2 ⟨v, rfl, hb2⟩; have hsl := HSL.out w2; have HB2 := Lib.hid hb2; clear hb2)
        go_roundw
        case rel => exact ⟨kk + 1, m - (4 + s + 4), c2, a2, ys.drop (4 + s + 4), by go_num, rfl, hc2, by omega, Lib.hid (HBr.out.trans (HB2.out.mono HBr.out.size)), Lib.hid (HY2.out _ _ HLr.out (bytes_below HYr.out HB2.out)), Lib.hid (by rw [List.length_drop, HLr.out]), HN'⟩
        case measure => show m - (4 + s + 4) < m; omega
      · have E := Lib.hid (splits_stop HSr.out hy0 he)
        have HFB : Hid (Calls Tryd.prog 14 #[.slice a9 m c9] wr fun e w' => e = .returned (.tuple #[.slice none 0 0, .int .i64 ((headOf ys).1 : Int), .int .i64 ((headOf ys).2 : Int)]) ∧ Below wr.heap.size wr w') := Lib.hid (HF.out.mono fun e w' h => by
          rcases h with ⟨_, h1⟩ | ⟨h1, _⟩
          · exact h1
          · exact absurd h1 he)
        obtain ⟨q, hq⟩ : ∃ q, q = (headOf ys).1 := ⟨_, rfl⟩
        obtain ⟨d, hd⟩ : ∃ d, d = (headOf ys).2 := ⟨_, rfl⟩
        rw [← hq, ← hd] at HFB
        rw [← hd, HLr.out] at E
        rw [← hd] at he
        clear hq hd hy0
        go_wp2_with (go_at_call 14; (with_reducible refine HFB.out.mono ?_); rintro e w2 ⟨rfl, hb2⟩; have HB2 := Lib.hid hb2; clear hb2)
        (try simp only [Exit.inBlock, Exit.then])
        refine bodyPost_ret (results_tmp3 rfl _ _ _) rfl ?_
        rw [← HQ.out]
        obtain ⟨rfl, rfl, rfl⟩ := E.out
        exact ⟨rfl, HBr.out.trans (HB2.out.mono HBr.out.size)⟩
set_option maxHeartbeats 1000000 in
set_option maxRecDepth 20000 in
theorem refsplit_any {w : World} {a : Option Addr} {cap n : Nat} {zs : List Nat} (hb : BytesAt w a zs) (hl : zs.length = n) (hcap : n ≤ cap) {x y z : Nat} (hS : Splits zs 0 x y z) :
    Calls Tryd.prog 9 #[.slice a n cap] w fun e w' => e = .returned (.tuple #[.int .i64 (x : Int), .int .i64 (y : Int), .int .i64 (z : Int)]) ∧ Below w.heap.size w w' := by
  have hn63 : n ≤ 9223372036854775807 := by have := hb.2.1; unfold maxLen at this; omega
  have HB := Lib.hid hb
  have HL := Lib.hid hl
  have HS := Lib.hid hS
  generalize hQ : (fun (e : Ending) (w' : World) => e = .returned (.tuple #[.int .i64 (x : Int), .int .i64 (y : Int), .int .i64 (z : Int)]) ∧ Below w.heap.size w w') = Q
  have HQ := Lib.hid hQ
  clear hb hl hS hQ
  go_enter Tryd.func9, Tryd.ntmps9
  go_wp2
  go_loopw [0, 5, 6, 7] (fun b k _ _ wr => ∃ (kk m c9 : Nat) (a9 : Option Addr) (ys : List Nat), k = .int .i64 (kk : Int) ∧ b = .slice a9 m c9 ∧ m ≤ c9 ∧ kk + m ≤ n ∧ Hid (Below w.heap.size w wr) ∧ Hid (BytesAt wr a9 ys) ∧ Hid (ys.length = m) ∧ Hid (Splits ys kk x y z)) (fun b _ _ _ _ => match b with | .slice _ m _ => m | _ => 0)
  case atStart => exact ⟨0, n, cap, a, zs, rfl, rfl, hcap, by omega, Lib.hid (Below.refl _ _), HB, HL, HS⟩
  case round =>
    obtain ⟨kk, m, c9, a9, ys, rfl, rfl, hmc, hkm, HBr, HYr, HLr, HSr⟩ := hrel
    have HF := Lib.hid (head_any HYr.out HLr.out hmc)
    by_cases h0 : m = 0
    · have E := Lib.hid (splits_empty HSr.out (by rw [HLr.out]; exact h0))
      subst h0
      go_wp2
      (try simp only [Exit.inBlock, Exit.then])
      refine bodyPost_ret (results_tmp3 rfl _ _ _) rfl ?_
      rw [← HQ.out]
      obtain ⟨rfl, rfl, rfl⟩ := E.out
      exact ⟨rfl, HBr.out⟩
    · have hpos : 0 < m := by omega
      have hy0 : ¬ ys.length = 0 := by rw [HLr.out]; exact h0
      obtain ⟨q, hq⟩ : ∃ q, q = (headOf ys).1 := ⟨_, rfl⟩
      obtain ⟨d, hd⟩ : ∃ d, d = (headOf ys).2 := ⟨_, rfl⟩
      have HFB : Hid (Calls Tryd.prog 17 #[.slice a9 m c9] wr fun e w' => e = .returned (.tuple #[.int .i64 (q : Int), .int .i64 (d : Int)]) ∧ Below wr.heap.size wr w') := Lib.hid (by rw [hq, hd]; exact HF.out)
      by_cases he : d = 0
      · have hd' : (headOf ys).2 = 0 := by rw [← hd]; exact he
        obtain ⟨s, hs1, hs2⟩ := head_pos hd'
        rw [HLr.out, ← hs1, ← hq] at hs2
        have hq0 : 0 < q := by omega
        obtain ⟨b, off, hab, -⟩ := byte_at HYr.out HLr.out 0 hpos
        obtain ⟨a2, c2, hsl, hc2, hy2⟩ := slice_off a9 m c9 q hs2 hmc ⟨b, off, hab⟩
        have HN := splits_more HSr.out hy0 hd'
        rw [← hq] at HN
        have HN' := Lib.hid HN
        have HSL := Lib.hid hsl
        have HY2 := Lib.hid hy2
        subst he
        clear hsl hy2 HN hab hy0 hd' hs1 hq hd
        go_wp2_with (go_at_call 17; (with_reducible refine HFB.out.mono ?_); rintro e w2 ⟨rfl, hb2⟩; have hsl := HSL.out w2; have HB2 := Lib.hid hb2; clear hb2)
        go_roundw
        case rel => exact ⟨kk + 1, m - q, c2, a2, ys.drop q, by go_num, rfl, hc2, by omega, Lib.hid (HBr.out.trans (HB2.out.mono HBr.out.size)), Lib.hid (HY2.out _ _ HLr.out (bytes_below HYr.out HB2.out)), Lib.hid (by rw [List.length_drop, HLr.out]), HN'⟩
        case measure => show m - q < m; omega
      · have E := Lib.hid (splits_stop HSr.out hy0 (by rw [← hd]; exact he))
        rw [← hd, HLr.out] at E
        clear hq hd hy0
        go_wp2_with (go_at_call 17; (with_reducible refine HFB.out.mono ?_); rintro e w2 ⟨rfl, hb2⟩; have HB2 := Lib.hid hb2; clear hb2)
        (try simp only [Exit.inBlock, Exit.then])
        refine bodyPost_ret (results_tmp3 rfl _ _ _) rfl ?_
        rw [← HQ.out]
        obtain ⟨rfl, rfl, rfl⟩ := E.out
        exact ⟨rfl, HBr.out.trans (HB2.out.mono HBr.out.size)⟩
end Go.Proofs.YteplapigkofgaaaDoor

/- The frame of a body; an empty reply's frame: contracts. -/
import Derived.Test.YteplapigkofgaaaDoorWirNum
import Derived.OwnWalk
namespace Go.Proofs.YteplapigkofgaaaDoor
open Go.ChangeShapes Go.WideShapes Go.ChangeAt Go.RowKit

theorem slc_of_own {w : World} {B g n cap : Nat} {t : TypeId} {xs : List Value} (h : w.ownsRow B t 1 (.slice (some ⟨g, 0, none⟩) n cap) n xs) (h1 : ∀ u ∈ xs, u.oneCell' = true) : Slc w (some g) 1 (.slice (some ⟨g, 0, none⟩) n cap) n xs := by
  have hlt := h.lt g rfl
  have hcell := h.cells (g := g) rfl
  have hlen := h.1
  rcases h.2 with ⟨h', _⟩ | ⟨g', cap', cur, h', hB, hg, e1, e2, e3, _⟩
  · simp at h'
  · simp only [Value.slice.injEq, Option.some.injEq, Addr.mk.injEq, and_true, true_and] at h'
    obtain ⟨rfl, rfl⟩ := h'
    have hadd : ∀ j, (⟨g, 0, none⟩ : Addr).add j = ⟨g, 0 + j, none⟩ := fun j => by unfold Addr.add; split <;> simp_all
    refine ⟨hlen, h1, .inr ⟨g, 0, cap, rfl, rfl, hlt.2, e1, e2, fun j u hu => by rw [← hadd]; exact hcell j u hu, fun j hj => ⟨?_, frozen_of_row _ _ _ _ _ hg⟩⟩⟩
    rw [cell_of_row _ _ _ _ _ _ hg, Nat.zero_add, Array.getElem?_eq_getElem (by omega)]
    rfl
theorem demand_yes (w : World) : Calls Tryd.prog 23 #[.bool true] w fun e w' => e = .returned (.tuple #[]) ∧ w = w' := by
  go_enter Tryd.func23, Tryd.ntmps23
  go_wp2
  go_end0
  exact ⟨rfl, rfl⟩
theorem bytesOf_byte (n k : Nat) : ∀ c ∈ bytesOf n k, c < 256 := by
  intro c hc
  simp only [bytesOf, List.mem_map, List.mem_range] at hc
  obtain ⟨j, _, rfl⟩ := hc
  exact Nat.mod_lt _ (by decide)
/-- The frame of a body. -/
def headed (l : List Nat) : List Nat := [77, 68] ++ bytesOf l.length 2 ++ l
def frameOf (l : List Nat) : List Nat := headed l ++ bytesOf (more 0 (headed l)) 4
theorem own_start (W V : World) {w2 : World} {n : Nat} (hB : Below W.heap.size W V) (h : w2.ownsRow V.heap.size 5 1 (.slice (some ⟨V.heap.size, 0, none⟩) 0 n) 0 []) (hg : V.grownBy w2 none) :
    Slc w2 (some V.heap.size) 1 (.slice (some ⟨V.heap.size, 0, none⟩) 0 n) 0 (u8s []) ∧ Below W.heap.size W w2 ∧ ∀ b, some V.heap.size = some b → W.heap.size ≤ b :=
  ⟨slc_of_own h (fun u hu => by cases hu), hB.grown hg hB.size (fun k hk => by cases hk), fun b e => by cases e; exact hB.size⟩
theorem const_two (w : World) : BytesAt (w.alloc (.cells #[.int .u8 77, .int .u8 68] 5)) (some ⟨w.heap.size, 0, none⟩) [77, 68] := bytes_alloc w [77, 68] (by decide) (by show 2 ≤ maxLen; unfold maxLen; decide) (0, 0)
/-- What framed tells. -/
def Told (W : World) (n : Nat) (l : List Nat) (e : Ending) (w' : World) : Prop := ∃ a c, e = .returned (.tuple #[.slice a n c, .int .i64 0]) ∧ Own W w' a n c l ∧ Below W.heap.size W w'
theorem tab_below {w w' : World} (h : TabAt w) (hb : Below w.heap.size w w') : TabAt w' := fun j hj => by
  have hc := h j hj
  rw [World.cell?_of_block (a := ⟨0, j, none⟩) (hb.block _ (World.block_lt_of_cell? w _ hc))]
  exact hc
theorem of_at {a : Option Addr} {cap n : Nat} {l : List Nat} {w : World} (hb : BytesAt w a l) (hn : l.length = n) (hT : TabAt w) : Calls Tryd.prog 19 #[.slice a n cap] w fun e w' => e = .returned (.int .u32 (more 0 l : Int)) ∧ w = w' := by
  subst hn
  exact of_any a cap l w hb hT
theorem headed_of {l : List Nat} {n : Nat} (hl : l.length = n) : ([] ++ [77, 68] ++ bytesOf n 2) ++ l = headed l := by rw [headed, hl, List.nil_append]
set_option maxHeartbeats 1000000 in
set_option maxRecDepth 20000 in
theorem framed_any {w : World} {a : Option Addr} {cap n : Nat} {l : List Nat} (hb : BytesAt w a l) (hl : l.length = n) (hn : n ≤ 12000) (hT : TabAt w) :
    Calls Tryd.prog 12 #[.slice a n cap] w (Told w (4 + n + 4) (frameOf l)) := by
  have HR := Lib.hid rowyU
  obtain ⟨i0, hi, hz0, hz1, hz2⟩ := info_parts info5
  have HBT : Hid (i0.bytes * (4 + n + 4) ≤ 281474976710656) := Lib.hid (by rw [hz2]; omega)
  have HMX : Hid (∀ k, k ≤ 1048600 → k ≤ maxLen) := Lib.hid (fun k h => by unfold maxLen; omega)
  have HB := Lib.hid hb
  have HT := Lib.hid hT
  have HL := Lib.hid hl
  obtain ⟨s, hs⟩ : ∃ s, s = more 0 (headed l) := ⟨_, rfl⟩
  have HHB : Hid (∀ c ∈ headed l, c < 256) := Lib.hid (fun c hc => by
    rw [headed] at hc
    rcases List.mem_append.1 hc with h | h
    · rcases List.mem_append.1 h with h | h
      · exact (by decide : ∀ c ∈ ([77, 68] : List Nat), c < 256) c h
      · exact bytesOf_byte _ _ c h
    · exact hb.1 c h)
  have hs4 : s < 4294967296 := by rw [hs]; exact more_lt (by decide) _ HHB.out
  have HS := Lib.hid hs
  have HF : Hid (frameOf l = headed l ++ bytesOf s 4) := Lib.hid (by rw [frameOf, hs])
  generalize hQ : Told w (4 + n + 4) (frameOf l) = Q
  have HQ := Lib.hid hQ
  clear hb hT hl hs hQ
  go_enter Tryd.func12, Tryd.ntmps12
  go_wp2_with (first
    | (go_at_call 19; (with_reducible refine HOF.out.mono ?_); rintro e w' ⟨rfl, rfl⟩)
    | (go_at_call 10; (with_reducible refine HN5.out.mono ?_); rintro e w6 ⟨a6, c6, rfl, ho6, hb6⟩; have HO6 := Lib.hid ho6; have HB6 := Lib.hid hb6; clear ho6 hb6)
    | (go_at_call 10; (with_reducible refine HN3.out.mono ?_); rintro e w4 ⟨a4, c4, rfl, ho4, hb4⟩; have HO4 := Lib.hid ho4; have HB4 := Lib.hid hb4; clear ho4 hb4)
    | (at_builtin; (refine wpList_slc HR.out rfl (.tmp 20) (.tmp 21) 22 rfl rfl rfl HO4.out.2.2.choose_spec.1 (bytes_src Tryd.underlying22 (bytes_below HB.out HB4.out) HL.out) rfl (HMX.out _ (by omega)) (by omega) ?_); intro a5 c5 b5 w5 h1 h2 h3; obtain ⟨ho5, hb5⟩ := own_more (n' := 4 + n) HO4.out.1 (by rw [HL.out]) HO4.out.2.1 HB.out.1 HB4.out HO4.out.2.2.choose_spec.2 h1 h2 h3; rw [headed_of HL.out] at ho5; have HO5 := Lib.hid ho5; have HB5 := Lib.hid hb5; clear h1 h2 h3 ho5 hb5;
        have HOF : Hid (Calls Tryd.prog 19 #[.slice a5 (4 + n) c5] w5 fun e w' => e = .returned (.int .u32 (s : Int)) ∧ w5 = w') := Lib.hid (by rw [HS.out]; exact of_at (own_bytes HO5.out) HO5.out.1 (tab_below HT.out HB5.out)); have HN5 : Hid (Calls Tryd.prog 10 #[.slice a5 (4 + n) c5, .int .i64 4, .int .u64 (s : Int)] w5 (Grew w (4 + n + 4) (headed l ++ bytesOf s 4))) := Lib.hid (number_own 4 s (4 + n) HO5.out HB5.out (by decide) (by omega) rfl))
    | (at_builtin; (refine wpList_slc HR.out rfl (.tmp 13) (.tmp 14) 22 rfl rfl rfl (slc_below HS2.out (below_alloc w2 _)) (bytes_src Tryd.underlying22 (const_two w2) rfl) rfl (HMX.out _ (by decide)) (by decide) ?_); intro a3 c3 b3 w3 h1 h2 h3; obtain ⟨ho3, hb3⟩ := own_more (l := []) (m := [77, 68]) rfl rfl (fun x hx => by cases hx) (by decide) (HB2.out.alloc HB2.out.size _) HN2.out h1 h2 h3; have HO3 := Lib.hid ho3; have HB3 := Lib.hid hb3; clear h1 h2 h3 ho3 hb3; have HN3 : Hid (Calls Tryd.prog 10 #[.slice a3 2 c3, .int .i64 2, .int .u64 (n : Int)] w3 (Grew w 4 ([] ++ [77, 68] ++ bytesOf n 2))) := Lib.hid (number_own 2 n 2 HO3.out HB3.out (by decide) (by decide) (rfl : 2 + 2 = 4)))
    | (at_make; refine wpList_make_own _ rfl _ _ 22 rfl w.heap.size 5 i0 (.int .u8 0) 1 Tryd.underlying22 hi hz0 hz1 .i64 .i64 _ (4 + n + 4) rfl rfl (by omega) HBT.out (HMX.out _ (by omega)) (Nat.le_refl _) ?_; intro w2 ho2 hg2; obtain ⟨hs2, hb2, hn2⟩ := own_start w w (Below.refl _ _) ho2 hg2; have HS2 := Lib.hid hs2; have HB2 := Lib.hid hb2; have HN2 := Lib.hid hn2; clear hs2 hb2 hn2 ho2 hg2))
  rw [← HQ.out, HF.out]
  exact ⟨a6, c6, rfl, HO6.out, HB6.out⟩
end Go.Proofs.YteplapigkofgaaaDoor

/- A page is read: the walk. -/
import Derived.Test.YtikcanbhdickgaaDskOpsC
namespace Go.Proofs.Ytikcanbhdickgaa
open Go.ChangeShapes Go.WideShapes Go.ChangeAt Go.RowKit

/-- A page as it was written last. -/
def pageNow (S : Dsk) (n : Nat) : List Nat := S.wait.foldl (fun l y => if y.1 = n then y.2 else l) (S.pages.getD n [])
theorem last_leaf' {w : World} {I : Nat → Prop} {n : Nat} (base : List Nat) : ∀ (wl : List (Nat × Nat × List Nat)) (o : Option Nat) (l : List Nat), (∀ y ∈ wl, Leaf w y.2.1 y.2.2 ∧ I y.2.1) → ((o = none ∧ l = base) ∨ ∃ b, o = some b ∧ Leaf w b l ∧ I b) →
    ((wl.foldl (fun o x => if x.1 = n then some x.2.1 else o) o = none ∧ (wl.map fun y => (y.1, y.2.2)).foldl (fun l (y : Nat × List Nat) => if y.1 = n then y.2 else l) l = base) ∨
    ∃ b, wl.foldl (fun o x => if x.1 = n then some x.2.1 else o) o = some b ∧ Leaf w b ((wl.map fun y => (y.1, y.2.2)).foldl (fun l (y : Nat × List Nat) => if y.1 = n then y.2 else l) l) ∧ I b)
  | [], o, l, _, h => h
  | y :: wl, o, l, hl, h => by
    simp only [List.map_cons, List.foldl_cons]
    refine last_leaf' base wl _ _ (fun z hz => hl z (List.mem_cons_of_mem _ hz)) ?_
    by_cases e : y.1 = n
    · rw [if_pos e, if_pos e]
      exact .inr ⟨_, rfl, (hl y (by simp)).1, (hl y (by simp)).2⟩
    · rw [if_neg e, if_neg e]
      exact h
theorem last_leaf {w : World} {I : Nat → Prop} {n : Nat} (base : List Nat) (wl : List (Nat × Nat × List Nat)) (hl : ∀ y ∈ wl, Leaf w y.2.1 y.2.2 ∧ I y.2.1) :
    (lastB wl n = none ∧ (wl.map fun y => (y.1, y.2.2)).foldl (fun l (y : Nat × List Nat) => if y.1 = n then y.2 else l) base = base) ∨
    ∃ b, lastB wl n = some b ∧ Leaf w b ((wl.map fun y => (y.1, y.2.2)).foldl (fun l (y : Nat × List Nat) => if y.1 = n then y.2 else l) base) ∧ I b :=
  last_leaf' base wl none base hl (.inl ⟨rfl, rfl⟩)
theorem zero70 (w : World) : (zeroValue 70).run Try.prog w = .ok (.pointer none) w := by kernel_rfl
theorem last_look {w : World} {mb cnt np : Nat} {D : DataW Value} {wl : List (Nat × Nat × List Nat)} (h : DLast w mb cnt D np wl) (n : Nat) (hn : n ≤ 9223372036854775807) :
    (Instr.lookup 62 (.map (some mb)) (.int .i64 (n : Int)) false).run Try.prog w = .ok (ptr (lastB wl n)) w := by
  obtain ⟨v, ps, hrun, hR⟩ := h.own.lookup keysInt Try.underlying62 (zero70 w) (zd := .held (.pointer none)) (zp := []) rfl (key := .int .i64 (n : Int)) (kl := .int .i64 (n : Int)) (Go.Maps.keyOf_int_mk Try.underlying3 (WalkArith.wf_i64 (by omega)))
  rw [h.at' n] at hR
  have hv : v = ptr (lastB wl n) := by
    cases v <;> simp [asIs] at hR
    rw [← hR.1]
  rw [hv] at hrun
  exact hrun
theorem slc_at {w : World} {bo : Option Nat} {n : Nat} {v : Value} {xs : List Value} (h : Slc w bo 1 v n xs) {k : Nat} (hk : k < n) : ∃ b off cap u, bo = some b ∧ v = .slice (some ⟨b, off, none⟩) n cap ∧ xs[k]? = some u ∧ w.cell? ⟨b, off + k, none⟩ = some u ∧ n ≤ cap ∧ cap ≤ maxLen := by
  obtain ⟨h1, h2, ⟨_, _, rfl⟩ | ⟨b, off, cap, rfl, rfl, hb, hn, hc, hx, hsp⟩⟩ := h
  · omega
  · have hlt : k < xs.length := by omega
    exact ⟨b, off, cap, xs[k], rfl, rfl, List.getElem?_eq_getElem hlt, hx k _ (List.getElem?_eq_getElem hlt), hn, hc⟩
theorem leaf_bytes {w : World} {k : Nat} {l : List Nat} (h : Leaf w k l) : BytesAt w (some ⟨k, 0, none⟩) l :=
  ⟨h.2.2, by rw [h.2.1]; unfold maxLen; decide, fun j hj => ⟨k, 0, rfl, by
    rw [cell_of_row _ _ _ _ _ _ h.1, Nat.zero_add, u8c_get l j hj]⟩⟩
section
variable {w : World} {S : Dsk} {x : Gh} (h : Dev w S x)
include h
theorem read_arg (n : Int) (hd : S.dead = false) (hn : n < 0 ∨ (S.pages.length : Int) ≤ n) : Calls Try.prog 15 #[.pointer (some ⟨x.g, 0, none⟩), .int .i64 n] w fun e w' => e = .returned (.tuple #[.slice none 0 0, .int .i64 1]) ∧ w = w' := by
  have HD := dead_any h
  rw [hd] at HD
  have H := Lib.hid HD
  have hl : S.pages.length = x.P.length := by rw [← h.sure.is, List.length_map]
  rw [hl] at hn
  obtain ⟨f0, f1, f2, f3, f4, f5, f6, f7, f8, f9, f10, f11, f12, fz⟩ := row13 h.cells
  obtain ⟨ao, cap, hv, hle, hmx, -⟩ := slc_form h.sure.slc
  rw [hv] at f0
  generalize x.P.length = L at f0 hle hn
  clear HD h hd hv f1 f2 f3 f4 f5 f6 f7 f8 f9 f10 f11 f12 fz hl
  by_cases h0 : n < 0
  · have d : decide (n < 0) = true := decide_eq_true h0
    go_enter Try.func15, Try.ntmps15
    go_wp2_with (go_at_call 20; refine H.out.mono ?_; rintro e w' ⟨rfl, rfl⟩)
    go_ret2
    exact ⟨rfl, rfl⟩
  · have d : decide (n < 0) = false := decide_eq_false h0
    have d2 : decide ((L : Int) ≤ n) = true := decide_eq_true (by omega)
    go_enter Try.func15, Try.ntmps15
    go_wp2_with (go_at_call 20; refine H.out.mono ?_; rintro e w' ⟨rfl, rfl⟩)
    go_ret2
    exact ⟨rfl, rfl⟩
theorem read_does (n : Nat) (hd : S.dead = false) (hn : n < S.pages.length) : Calls Try.prog 15 #[.pointer (some ⟨x.g, 0, none⟩), .int .i64 (n : Int)] w (TellsB w 512 (pageNow S n)) := by
  obtain ⟨i0, R⟩ := rowU8
  have HR := Lib.hid R
  have HD := dead_any h
  rw [hd] at HD
  have H := Lib.hid HD
  have hl : S.pages.length = x.P.length := by rw [← h.sure.is, List.length_map]
  have hfew := h.sure.few
  obtain ⟨f0, f1, f2, f3, f4, f5, f6, f7, f8, f9, f10, f11, f12, fz⟩ := row13 h.cells
  have hlk := last_look h.last n (by omega)
  obtain ⟨b, off, cap, u, hsb, hv, hu, hcu, hle, hmx⟩ := slc_at h.sure.slc (k := n) (by omega)
  rw [hv] at f0
  have hnow := last_leaf (w := w) (I := x.I) (n := n) (S.pages.getD n []) x.wl (fun y hy => (h.wait.leaf y hy).2)
  rw [h.wait.is] at hnow
  have hpn : x.P[n]? = some x.P[n] := List.getElem?_eq_getElem (by omega)
  have hun : u = ptr (x.P[n]'(by omega)).1 := by
    rw [List.getElem?_map, hpn] at hu
    exact (Option.some.inj hu).symm
  have hbase : S.pages.getD n [] = (x.P[n]'(by omega)).2 := by
    rw [← h.sure.is]
    simp [hpn]
  have hlf := h.sure.leaf (x.P[n]'(by omega)) (List.getElem_mem _)
  rw [hl] at hn
  -- what is told: noughts, or a leaf
  have hfin : (lastB x.wl n = none ∧ u = .pointer none ∧ pageNow S n = noughts) ∨ (lastB x.wl n = none ∧ ∃ k, u = ptr (some k) ∧ Leaf w k (pageNow S n) ∧ k ≠ x.g ∧ k < w.heap.size) ∨ ∃ k, lastB x.wl n = some k ∧ Leaf w k (pageNow S n) ∧ k ≠ x.g ∧ k < w.heap.size := by
    have hout := h.out
    rcases hnow with ⟨h1, h2⟩ | ⟨k, h1, h2, h3⟩
    · rcases hlf with ⟨g1, g2⟩ | ⟨k, g1, g2, g3⟩
      · refine .inl ⟨h1, by rw [hun, g1]; rfl, ?_⟩
        rw [pageNow, h2, hbase, g2]
      · refine .inr (.inl ⟨h1, k, by rw [hun, g1], ?_, (hout k g3).1, (hout k g3).2.2.2.2.2⟩)
        rw [pageNow, h2, hbase]
        exact g2
    · exact .inr (.inr ⟨k, h1, h2, (hout k h3).1, (hout k h3).2.2.2.2.2⟩)
  have HF := Lib.hid hfin
  generalize x.P.length = L at f0 hle hn hfew
  generalize hQ : TellsB w 512 (pageNow S n) = Q
  have HQ := Lib.hid hQ
  have d : decide ((n : Int) < 0) = false := decide_eq_false (by omega)
  have d2 : decide (L ≤ n) = false := decide_eq_false (by omega)
  unfold maxLen at hmx
  clear HD h hd hv f2 f3 f4 f5 f6 f7 f8 f9 f10 f11 f12 fz hl hu hnow hpn hun hbase hlf hfin hQ R hsb
  rcases HF.out with ⟨e1, e2, e3⟩ | ⟨e1, k, e2, e3, e4, e5⟩ | ⟨k, e1, e3, e4, e5⟩
  · rw [e1] at hlk
    rw [e2] at hcu
    simp only [ptr, Option.map_none] at hlk hcu
    have HE3 := Lib.hid e3
    have HBT : Hid (i0.bytes * 512 ≤ 281474976710656) := Lib.hid (by rw [HR.out.hby]; decide)
    have HI := Lib.hid HR.out.hi; have HZ := Lib.hid HR.out.hz; have HS := Lib.hid HR.out.hsz
    clear e1 e2 e3 HF
    go_enter Try.func15, Try.ntmps15
    go_wp2_with (first | (go_at_call 20; refine H.out.mono ?_; rintro e w' ⟨rfl, rfl⟩) | (at_make; refine wpList_make_full _ rfl _ _ 28 rfl _ 5 i0 (.int .u8 0) 1 Try.underlying28 HI.out HZ.out HS.out .i64 .i64 512 512 512 rfl rfl rfl rfl HBT.out (by unfold maxLen; decide) (Nat.le_refl _) ?_; intro w2 ho2 hg2; rw [made_noughts] at ho2; have HO2 := Lib.hid ho2; have HG2 := Lib.hid hg2; clear ho2 hg2))
    rw [← HQ.out, HE3.out]
    exact ⟨_, _, some w.heap.size, rfl, slc_of_own HO2.out (u8s_one _), (Below.refl w.heap.size w).grown HG2.out (Nat.le_refl _) (fun k hk => by cases hk), rfl, fun b e => by cases e; exact Nat.le_refl _⟩
  · rw [e1] at hlk
    rw [e2] at hcu
    simp only [ptr, Option.map_some, Option.map_none] at hlk hcu
    have HLF := Lib.hid e3
    clear e1 e2 e3 HF
    go_enter Try.func15, Try.ntmps15
    go_wp2_with (go_at_call 20; refine H.out.mono ?_; rintro e w' ⟨rfl, rfl⟩)
    obtain ⟨w2, hmk, ho2, hg2⟩ := run_make_own (P := Try.prog) w.drew (w.heap.size) 28 5 i0 (.int .u8 0) 1 HR.out.ht HR.out.hi HR.out.hz HR.out.hsz .i64 .i64 512 (by rw [HR.out.hby]; decide) (by unfold maxLen; decide) (Nat.le_refl _)
    rw [show ((512 : Nat) : Int) = 512 from rfl] at hmk
    have HO := Lib.hid ho2; have HG := Lib.hid hg2
    have HB2 : Hid (Below w.heap.size w w2) := Lib.hid (((Below.refl _ w).drew).grown hg2 (Nat.le_refl _) (fun k hk => by cases hk))
    have HY := Lib.hid (bytes_below (leaf_bytes HLF.out) HB2.out)
    have HL5 := Lib.hid HLF.out.2.1
    clear ho2 hg2
    go_region_held3 (fun _ => True) (trivial)
      ((refine step_slc HR.out rfl (.tmp 40) (.tmp 43) 28 rfl (by rfl) (by rfl) (slc_of_own HO.out (fun u hu => by cases hu)) (bytes_src Try.underlying28 HY.out HL5.out) (Nat.zero_add 512) (by unfold maxLen; decide) (by decide) ?_; intro ao3 cap3 bo3 w3 h1 h2 h3; have HS3 := Lib.hid h1; have HT3 := Lib.hid h2; have HO3 := Lib.hid h3; clear h1 h2 h3))
    go_wp2
    rw [← HQ.out]
    exact tellsB_of HB2.out HS3.out HT3.out HO3.out (by have := HG.out.size; simpa using this)
  · rw [e1] at hlk
    simp only [ptr, Option.map_some] at hlk
    have HLF := Lib.hid e3
    clear hcu e1 e3 HF
    go_enter Try.func15, Try.ntmps15
    go_wp2_with (go_at_call 20; refine H.out.mono ?_; rintro e w' ⟨rfl, rfl⟩)
    obtain ⟨w2, hmk, ho2, hg2⟩ := run_make_own (P := Try.prog) w.drew (w.heap.size) 28 5 i0 (.int .u8 0) 1 HR.out.ht HR.out.hi HR.out.hz HR.out.hsz .i64 .i64 512 (by rw [HR.out.hby]; decide) (by unfold maxLen; decide) (Nat.le_refl _)
    rw [show ((512 : Nat) : Int) = 512 from rfl] at hmk
    have HO := Lib.hid ho2; have HG := Lib.hid hg2
    have HB2 : Hid (Below w.heap.size w w2) := Lib.hid (((Below.refl _ w).drew).grown hg2 (Nat.le_refl _) (fun k hk => by cases hk))
    have HY := Lib.hid (bytes_below (leaf_bytes HLF.out) HB2.out)
    have HL5 := Lib.hid HLF.out.2.1
    clear ho2 hg2
    go_region_held3 (fun _ => True) (trivial)
      ((refine step_slc HR.out rfl (.tmp 40) (.tmp 43) 28 rfl (by rfl) (by rfl) (slc_of_own HO.out (fun u hu => by cases hu)) (bytes_src Try.underlying28 HY.out HL5.out) (Nat.zero_add 512) (by unfold maxLen; decide) (by decide) ?_; intro ao3 cap3 bo3 w3 h1 h2 h3; have HS3 := Lib.hid h1; have HT3 := Lib.hid h2; have HO3 := Lib.hid h3; clear h1 h2 h3))
    go_wp2
    rw [← HQ.out]
    exact tellsB_of HB2.out HS3.out HT3.out HO3.out (by have := HG.out.size; simpa using this)
end
end Go.Proofs.Ytikcanbhdickgaa

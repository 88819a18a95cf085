/- The log is appended to, and cut: the walks. -/
import Derived.Test.YtikcanbhdickgaaDskTell
namespace Go.Proofs.Ytikcanbhdickgaa
open Go.ChangeShapes Go.WideShapes Go.ChangeAt Go.RowKit

theorem u8s_append (l m : List Nat) : u8s (l ++ m) = u8s l ++ u8s m := by simp [u8s]
theorem u8s_drop (l : List Nat) (n : Nat) : u8s (l.drop n) = (u8s l).drop n := by simp [u8s, List.map_drop]
theorem cells_turned {E : Nat → Prop} {w w' : World} {g : Nat} {t : TypeId} {cs : Array Value} (h : Cells w g t cs) (ht : Turned E w w') (hE : ¬ E g) : Cells w' g t cs := by
  unfold Cells
  rw [ht.block g (Array.getElem?_eq_some_iff.1 h).1 hE]; exact h
section
variable {w : World} {S : Dsk} {x : Gh} (h : Dev w S x)
include h
theorem append_does {a : Option Addr} {n cap : Nat} {l : List Nat} (hb : BytesAt w a l) (hl : l.length = n) (hx : Apt x a l) (hd : S.dead = false) (hn : S.log.length + n + S.half.length ≤ S.room) (hf : S.fuse ≠ some 0) (ho : S.ops < 4611686018427387904) :
    Calls Try.prog 16 #[.pointer (some ⟨x.g, 0, none⟩), .slice a n cap] w (Did w x { S with fuse := S.fuse.map (· - 1), ops := S.ops + 1, log := S.log ++ l } (.int .i64 0)) := by
  obtain ⟨i0, R⟩ := rowU8
  have HR := Lib.hid R
  have HD := dead_any h
  rw [hd] at HD
  have H := Lib.hid HD
  have HA := Lib.hid (fun V (hV : Below w.heap.size w V) => alive_lives (dev_below h hV) hf ho)
  generalize hQ : Did w x { S with fuse := S.fuse.map (· - 1), ops := S.ops + 1, log := S.log ++ l } (.int .i64 0) = Q
  have HQ := Lib.hid hQ
  obtain ⟨f0, f1, f2, f3, f4, f5, f6, f7, f8, f9, f10, f11, f12, fz⟩ := row13 h.cells
  obtain ⟨ao, cap2, hv, hle, hmx, -⟩ := slc_form h.log.slc
  rw [hv] at f4
  have hr1 := h.num.1
  have hr2 := h.num.2.1
  have HB := Lib.hid hb; have HL := Lib.hid hl; have HX := Lib.hid hx; have HV := Lib.hid hv
  have HN : Hid (S.half.length + (S.log ++ l).length ≤ S.room) := Lib.hid (by rw [List.length_append]; omega)
  obtain ⟨L, hL⟩ : ∃ L, L = S.log.length := ⟨_, rfl⟩
  obtain ⟨M, hM⟩ : ∃ M, M = S.room := ⟨_, rfl⟩
  rw [← hL] at f4 hle hn hr1
  rw [← hM] at f5 hn hr1 hr2
  have HLL := Lib.hid hL
  have HMM := Lib.hid hM
  clear HD h hd hf hQ hv f0 f1 f2 f3 f6 f7 f8 f9 f10 f11 f12 fz hb hl hx ho R hL hM
  have d : decide ((M : Int) - (L : Int) < (n : Int)) = false := decide_eq_false (by omega)
  go_enter Try.func16, Try.ntmps16
  go_wp2_with (go_at_call 20; refine H.out.mono ?_; rintro e w' ⟨rfl, rfl⟩)
  go_quiet (fail)
  have HB0 : Hid (Below w.heap.size w (w.drewN nq)) := Lib.hid (below_drewN (Below.refl _ _) _)
  generalize w.drewN nq = w0 at HB0 f4 f5 ⊢
  go_wp2_with fail
  refine (HA.out w0 HB0.out).mono ?_
  rintro e w1 ⟨rfl, ⟨left, h1⟩, h2⟩
  have H1 := Lib.hid h1; have H2 := Lib.hid h2
  clear h1 h2 f4 f5
  obtain ⟨f0, f1, f2, f3, f4, f5, f6, f7, f8, f9, f10, f11, f12, fz⟩ := row13 H1.out.cells
  have hsl := H1.out.log.slc
  simp only at hsl f4
  rw [HV.out] at hsl f4
  rw [← HLL.out] at hsl f4
  have HSL := Lib.hid hsl
  have HBY := Lib.hid (bytes_turned' (bytes_below HB.out HB0.out) H2.out (fun h0 ad e e' => HX.out h0 ad e (.inl e')))
  have hgl := dev_size H1.out x.g (.inl rfl)
  have hlg : x.lb ≠ some x.g := H1.out.apart.2.2.2.2.2.1
  clear f0 f1 f2 f3 f5 f6 f7 f8 f9 f10 f11 f12 hsl
  go_wp2_with (at_builtin; refine wpList_slc HR.out rfl (.tmp 35) (.tmp 36) 28 rfl rfl rfl HSL.out (bytes_src Try.underlying28 HBY.out HL.out) rfl (by unfold maxLen; omega) (by omega) ?_; intro ao3 cap3 bo w2 g1 g2 g3; have G1 := Lib.hid g1; have G2 := Lib.hid g2; have G3 := Lib.hid g3; have q4 := cell_turned f4 g2 hlg; have qz : w2.frozen? ⟨x.g, 4, none⟩ = false := (World.frozen?_of_block (a := ⟨x.g, 4, none⟩) (g2.block x.g hgl hlg)).trans (fz 4); clear g1 g2 g3)
  rw [← HQ.out]
  have hle : (S.log ++ l).length = L + n := by rw [List.length_append, HLL.out, HL.out]
  have hc2 := cells_turned H1.out.cells G2.out hlg
  have hc := cells_setCell (o := 4) (v := .slice ao3 (L + n) cap3) hc2
  have hnum := HN.out
  have hk : S.kept ≤ S.log.length := H1.out.num.2.2.1
  refine did_log (w1 := w1) (bo := bo) (kept' := S.kept) ((Turned.of_below HB0.out).trans (H2.out.mono (E' := Ex x) (fun _ e => .inl e)) (fun _ h => .inl h)) H1.out rfl (fun _ h => .inl h) (fun _ h => .inl h) ((G2.out.mono (fun _ e => .inr e)).setCell (.inl (.inl rfl)) _) hc ?_ (fun c hc => ?_) ?_ hnum (by rw [hle]; have := HLL.out; omega)
  · rw [hle, u8s_append]
    refine slc_turned G1.out (turned_g _) (fun b e e' => ?_)
    rcases G3.out with e2 | e2
    · rw [e2] at e; rw [e'] at e; exact hlg e
    · rw [e2] at e; rw [e'] at e
      have : w1.heap.size = x.g := Option.some.inj e
      omega
  · rcases List.mem_append.1 hc with h | h
    · exact H1.out.log.byte c h
    · exact HBY.out.1 c h
  · rcases G3.out with e2 | e2
    · exact .inl e2
    · exact .inr (fun b e => by rw [e2] at e; cases e; exact Nat.le_refl _)
theorem cut_arg (k : Int) (a : Option Addr) {n : Nat} (cap : Nat) (hd : S.dead = false) (hn : k < 0 ∨ (S.kept : Int) < k ∨ 64 < n) (hm : n ≤ 9223372036854775807) : Calls Try.prog 34 #[.pointer (some ⟨x.g, 0, none⟩), .int .i64 k, .slice a n cap] w fun e w' => e = .returned (.int .i64 1) ∧ w = w' := by
  have HD := dead_any h
  rw [hd] at HD
  have H := Lib.hid HD
  obtain ⟨f0, f1, f2, f3, f4, f5, f6, f7, f8, f9, f10, f11, f12, fz⟩ := row13 h.cells
  generalize S.kept = K at f6 hn
  clear HD h hd f0 f1 f2 f3 f4 f5 f7 f8 f9 f10 f11 f12 fz
  by_cases h0 : k < 0
  · have d : decide (k < 0) = true := decide_eq_true h0
    go_enter Try.func34, Try.ntmps34
    go_wp2_with (go_at_call 20; refine H.out.mono ?_; rintro e w' ⟨rfl, rfl⟩)
    go_ret
    exact ⟨rfl, rfl⟩
  · have d : decide (k < 0) = false := decide_eq_false h0
    by_cases h1 : (K : Int) < k
    · have d2 : decide ((K : Int) < k) = true := decide_eq_true h1
      go_enter Try.func34, Try.ntmps34
      go_wp2_with (go_at_call 20; refine H.out.mono ?_; rintro e w' ⟨rfl, rfl⟩)
      go_ret
      exact ⟨rfl, rfl⟩
    · have d2 : decide ((K : Int) < k) = false := decide_eq_false h1
      have d3 : decide ((64 : Int) < (n : Int)) = true := decide_eq_true (by omega)
      have d4 : decide (64 < n) = true := decide_eq_true (by omega)
      go_enter Try.func34, Try.ntmps34
      go_wp2_with (go_at_call 20; refine H.out.mono ?_; rintro e w' ⟨rfl, rfl⟩)
      go_ret
      exact ⟨rfl, rfl⟩
theorem cut_dies (k : Nat) (a : Option Addr) {n : Nat} (cap : Nat) (hd : S.dead = false) (hk : k ≤ S.kept) (hn : n ≤ 64) (hf : S.fuse = some 0) : Calls Try.prog 34 #[.pointer (some ⟨x.g, 0, none⟩), .int .i64 (k : Int), .slice a n cap] w (Did w x { S with dead := true } (.int .i64 9)) := by
  have HD := dead_any h
  rw [hd] at HD
  have H := Lib.hid HD
  have HA := Lib.hid (alive_dies h hf)
  generalize hQ : Did w x { S with dead := true } (.int .i64 9) = Q
  have HQ := Lib.hid hQ
  obtain ⟨f0, f1, f2, f3, f4, f5, f6, f7, f8, f9, f10, f11, f12, fz⟩ := row13 h.cells
  generalize S.kept = K at f6 hk
  clear HD h hd hf hQ f0 f1 f2 f3 f4 f5 f7 f8 f9 f10 f11 f12 fz
  have d : decide ((k : Int) < 0) = false := decide_eq_false (by omega)
  have d2 : decide (K < k) = false := decide_eq_false (by omega)
  have d3 : decide ((64 : Int) < (n : Int)) = false := decide_eq_false (by omega)
  have d4 : decide (64 < n) = false := decide_eq_false (by omega)
  go_enter Try.func34, Try.ntmps34
  go_wp2_with (first | (go_at_call 20; refine H.out.mono ?_; rintro e w' ⟨rfl, rfl⟩) | (go_at_call 36; refine HA.out.mono ?_; rintro e w1 ⟨rfl, h1, h2⟩; have H1 := Lib.hid h1; have H2 := Lib.hid h2; clear h1 h2))
  rw [← HQ.out]
  exact did_dead H1.out H2.out _
theorem cut_does (k : Nat) {a : Option Addr} {n cap : Nat} {l : List Nat} (hb : BytesAt w a l) (hl : l.length = n) (hx : Apt x a l) (hd : S.dead = false) (hk : k ≤ S.kept) (hn : n ≤ 64) (hf : S.fuse ≠ some 0) (ho : S.ops < 4611686018427387904) :
    Calls Try.prog 34 #[.pointer (some ⟨x.g, 0, none⟩), .int .i64 (k : Int), .slice a n cap] w (Did w x { S with fuse := S.fuse.map (· - 1), ops := S.ops + 1, log := S.log.drop k, kept := S.kept - k, mark := l } (.int .i64 0)) := by
  have HD := dead_any h
  rw [hd] at HD
  have H := Lib.hid HD
  have HA := Lib.hid (alive_lives h hf ho)
  generalize hQ : Did w x { S with fuse := S.fuse.map (· - 1), ops := S.ops + 1, log := S.log.drop k, kept := S.kept - k, mark := l } (.int .i64 0) = Q
  have HQ := Lib.hid hQ
  obtain ⟨f0, f1, f2, f3, f4, f5, f6, f7, f8, f9, f10, f11, f12, fz⟩ := row13 h.cells
  obtain ⟨ao, cap2, hv, hle, hmx, -⟩ := slc_form h.log.slc
  have hkl := h.num.2.2.1
  have hnum := h.num.2.2.2.1
  have HB := Lib.hid hb; have HL := Lib.hid hl; have HX := Lib.hid hx; have HV := Lib.hid hv
  obtain ⟨L, hL⟩ : ∃ L, L = S.log.length := ⟨_, rfl⟩
  obtain ⟨K, hK⟩ : ∃ K, K = S.kept := ⟨_, rfl⟩
  have hKb : K ≤ 16777216 := by have := h.num.1; have := h.num.2.1; omega
  rw [← hL] at hle hkl hnum
  rw [← hK] at f6 hk hkl
  have HLL := Lib.hid hL
  have HKK := Lib.hid hK
  have HNUM := Lib.hid hnum
  clear HD h hd hf hQ hv f0 f1 f2 f3 f4 f5 f7 f8 f9 f10 f11 f12 fz hb hl hx ho hL hK hnum
  have d : decide ((k : Int) < 0) = false := decide_eq_false (by omega)
  have d2 : decide (K < k) = false := decide_eq_false (by omega)
  have d3 : decide ((64 : Int) < (n : Int)) = false := decide_eq_false (by omega)
  have d4 : decide (64 < n) = false := decide_eq_false (by omega)
  go_enter Try.func34, Try.ntmps34
  go_wp2_with fail
  refine H.out.mono ?_
  rintro e w' ⟨rfl, rfl⟩
  go_wp2_with fail
  refine HA.out.mono ?_
  rintro e w1 ⟨rfl, ⟨left, h1⟩, h2⟩
  have H1 := Lib.hid h1; have H2 := Lib.hid h2
  clear h1 h2 f6
  obtain ⟨f0, f1, f2, f3, f4, f5, f6, f7, f8, f9, f10, f11, f12, fz⟩ := row13 H1.out.cells
  have hsl := H1.out.log.slc
  simp only at hsl f4 f6
  rw [HV.out] at hsl f4
  rw [← HLL.out] at hsl f4
  rw [← HKK.out] at f6
  obtain ⟨a2, c2, hrun, hs2⟩ := slc_from hsl (j := k) (by omega)
  have HS := Lib.hid hs2
  obtain ⟨L2, hL2⟩ : ∃ L2, L2 = L - k := ⟨_, rfl⟩
  rw [← hL2] at hrun
  have HL2 := Lib.hid hL2
  clear f0 f1 f2 f3 f5 f7 f8 f9 f10 f11 f12 hsl hs2 hL2
  go_wp2_with fail
  have hc := cells_setCell (o := 6) (v := .int .i64 ((K : Int) - (k : Int))) (cells_setCell (o := 4) (v := .slice a2 L2 c2) H1.out.cells)
  have hT := turned_gg (o := 6) (turned_g (w := w1) (g := x.g) (o := 4) (.slice a2 L2 c2)) (.int .i64 ((K : Int) - (k : Int)))
  generalize (w1.setCell ⟨x.g, 4, none⟩ (.slice a2 L2 c2)).setCell ⟨x.g, 6, none⟩ (.int .i64 ((K : Int) - (k : Int))) = w2 at hc hT ⊢
  have hld : (S.log.drop k).length = L2 := by rw [List.length_drop, ← HLL.out, HL2.out]
  have hcast : ((K : Int) - (k : Int)) = ((S.kept - k : Nat) : Int) := by rw [← HKK.out]; omega
  rw [hcast] at hc
  have hD2 := did_log (k := 0) (bo := x.lb) (kept' := S.kept - k) (l := S.log.drop k) (H2.out.mono (E' := Ex x) (fun _ e => .inl e)) H1.out rfl (fun _ h => .inl h) (fun _ h => .inl h) (hT.mono (fun _ e => .inl e)) hc
    (by
      rw [hld, u8s_drop, HL2.out]
      exact slc_turned HS.out hT (fun b e e' => H1.out.apart.2.2.2.2.2.1 (by show x.lb = some x.g; rw [← e']; exact e)))
    (fun c hc => H1.out.log.byte c (List.mem_of_mem_drop hc)) (.inl rfl) (by show S.half.length + (S.log.drop k).length ≤ S.room; rw [hld, HL2.out]; have := HNUM.out; omega) (by rw [hld, HL2.out, ← HKK.out]; omega)
  obtain ⟨x2, -, hd2, hg2, ht2, hE2, hI2⟩ := hD2
  have HD2 := Lib.hid hd2; have HT2 := Lib.hid ht2; have HE2 := Lib.hid hE2; have HI2 := Lib.hid hI2; have HG2 := Lib.hid hg2
  have HBY := Lib.hid (bytes_turned' HB.out ht2 HX.out)
  clear hc hT hcast hd2 ht2 hE2 hI2 hg2 f4 f6 hrun hld
  refine (clone_bytes HBY.out HL.out (by omega)).mono ?_
  rintro e w3 ⟨ao3, c3, bo, rfl, hs, hbl, hnw⟩
  obtain ⟨f0, f1, f2, f3, f4, f5, f6, f7, f8, f9, f10, f11, f12, fz⟩ := row13 (dev_below HD2.out hbl).cells
  rw [HG2.out] at f8 fz
  have HS3 := Lib.hid hs; have HBL := Lib.hid hbl; have HNW := Lib.hid hnw
  clear f0 f1 f2 f3 f4 f5 f6 f7 f9 f10 f11 f12 hs hbl hnw
  go_wp2
  rw [← HQ.out]
  exact did_mark HT2.out HD2.out HG2.out HE2.out HI2.out HBL.out HS3.out HNW.out HB.out.1 HL.out (by rw [HL.out]; exact hn)
end
end Go.Proofs.Ytikcanbhdickgaa

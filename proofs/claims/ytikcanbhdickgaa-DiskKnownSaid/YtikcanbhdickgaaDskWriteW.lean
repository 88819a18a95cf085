/- A page is written: the walks. -/
import Derived.Test.YtikcanbhdickgaaDskWrite
import Derived.StillTailTactics
import Derived.Deep.RegionHeld3
namespace Go.Proofs.Ytikcanbhdickgaa
open Go.ChangeShapes Go.WideShapes Go.ChangeAt Go.RowKit

theorem info69z : (Try.prog.info? 69).map (·.zero) = some (some (.agg Noughts)) := by kernel_rfl
theorem size69 (l : List Nat) (h : l.length = 512) : (Try.prog.info? 69).map (·.size) = some (u8c l).size := by
  rw [info65]; simp [u8c, h]
theorem noughts_size : Noughts.size = 512 := by unfold Noughts u8c noughts; rw [List.size_toArray, List.length_map, List.length_replicate]
theorem u8c_one (l : List Nat) : (u8c l).all (·.oneCell') = true := by simp [u8c, Value.oneCell']
theorem arr_at (ad : Addr) (cap : Nat) (w : World) : (Instr.arrayAt 69 (.slice (some ad) 512 cap)).run Try.prog w = .ok (.pointer (some ad)) w := by
  simp only [Instr.arrayAt, Sem.run_bind, run_underlying Try.underlying69, Result.andThen_ok]
  rfl
theorem write_world (w : World) {l : List Nat} (n : Nat) (hl : l.length = 512) (hz : ∀ c ∈ l, c < 256) : Below w.heap.size w (((w.alloc (.cells Noughts 69)).setRow w.heap.size (u8c l)).alloc (.cells #[.int .i64 (n : Int), .pointer (some ⟨w.heap.size, 0, none⟩)] 72)) ∧
    Leaf (((w.alloc (.cells Noughts 69)).setRow w.heap.size (u8c l)).alloc (.cells #[.int .i64 (n : Int), .pointer (some ⟨w.heap.size, 0, none⟩)] 72)) w.heap.size l ∧
    Cells (((w.alloc (.cells Noughts 69)).setRow w.heap.size (u8c l)).alloc (.cells #[.int .i64 (n : Int), .pointer (some ⟨w.heap.size, 0, none⟩)] 72)) (w.heap.size + 1) 72 #[.int .i64 (n : Int), ptr (some w.heap.size)] := by
  have hs : ((w.alloc (.cells Noughts 69)).setRow w.heap.size (u8c l)).heap.size = w.heap.size + 1 := by rw [size_setRow, size_alloc]
  refine ⟨(below_setRow (below_alloc w _) (Nat.le_refl _) _).alloc (by rw [hs]; omega) _, ⟨?_, hl, hz⟩, ?_⟩
  · exact cells_alloc (setRow_heap _ _ Noughts (u8c l) _ _ (cells_new w _ _)) _
  · have := cells_new ((w.alloc (.cells Noughts 69)).setRow w.heap.size (u8c l)) 72 #[.int .i64 (n : Int), ptr (some w.heap.size)]
    rw [hs] at this
    exact this
theorem infoWait : (Try.prog.info? 72).map (fun i => (i.zero, i.size, i.bytes)) = some (some (.agg #[.int .i64 0, .pointer none]), 2, 16) := by kernel_rfl
theorem rowWait : ∃ i, Rowy Try.prog 63 72 i (.agg #[.int .i64 0, .pointer none]) 2 16 := by
  obtain ⟨i0, hi, hz0, hz1, hz2⟩ := info_parts infoWait
  exact ⟨i0, Try.underlying63, hi, hz0, hz1, hz2, rfl⟩
theorem grown_turned {a b : World} {row : Option Nat} (h : a.grownBy b row) : Turned (fun k => row = some k) a b := ⟨h.os, h.tape, h.output, h.size, fun k hk hn => h.block k hk (fun e => hn e.symm)⟩
/-- A write, laid out for an append. -/
theorem wait_src {w : World} {g : Nat} {n pb : Nat} (h : w.cell? ⟨g, 0, none⟩ = some (.int .i64 (n : Int))) (h' : w.cell? ⟨g, 1, none⟩ = some (.pointer (some ⟨pb, 0, none⟩))) : _root_.Go.Src Try.prog 2 63 (.slice (some ⟨g, 0, none⟩) 1 1) 1 [.int .i64 (n : Int), ptr (some pb)] w :=
  _root_.Go.Src.ofSlice w Try.underlying63 ⟨g, 0, none⟩ 1 1 _ rfl (fun j u hu => by
    have e : ∀ j, (⟨g, 0, none⟩ : Addr).add j = ⟨g, j, none⟩ := fun j => by unfold Addr.add; split <;> simp_all
    rw [e]
    match j, hu with
    | 0, hu => cases hu; exact h
    | 1, hu => cases hu; exact h') (fun u hu => by simp [ptr] at hu; rcases hu with rfl | rfl <;> rfl)
theorem cell_alloc {w : World} {a : Addr} {v : Value} (h : w.cell? a = some v) (o : Obj) : (w.alloc o).cell? a = some v := ((below_alloc w o).cell (World.block_lt_of_cell? w a h)).trans h
theorem frozen_alloc {w : World} {b o : Nat} (h : b < w.heap.size) (ob : Obj) : (w.alloc ob).frozen? ⟨b, o, none⟩ = w.frozen? ⟨b, o, none⟩ := (below_alloc w ob).frozen (p := ⟨b, o, none⟩) h
section
variable {w : World} {S : Dsk} {x : Gh} (h : Dev w S x)
include h
theorem write_arg (k : Int) (a : Option Addr) {n : Nat} (cap : Nat) (hd : S.dead = false) (hn : k < 0 ∨ (S.pages.length : Int) ≤ k ∨ n ≠ 512) : Calls Try.prog 12 #[.pointer (some ⟨x.g, 0, none⟩), .int .i64 k, .slice a n cap] w fun e w' => e = .returned (.int .i64 1) ∧ w = w' := by
  have HD := dead_any h
  rw [hd] at HD
  have H := Lib.hid HD
  have hl : S.pages.length = x.P.length := by rw [← h.sure.is, List.length_map]
  rw [hl] at hn
  obtain ⟨f0, f1, f2, f3, f4, f5, f6, f7, f8, f9, f10, f11, f12, fz⟩ := row13 h.cells
  obtain ⟨ao, cap2, hv, hle, hmx, -⟩ := slc_form h.sure.slc
  rw [hv] at f0
  generalize x.P.length = L at f0 hle hn
  clear HD h hd hv f1 f2 f3 f4 f5 f6 f7 f8 f9 f10 f11 f12 fz hl
  by_cases h0 : k < 0
  · have d : decide (k < 0) = true := decide_eq_true h0
    go_enter Try.func12, Try.ntmps12
    go_wp2_with (go_at_call 20; refine H.out.mono ?_; rintro e w' ⟨rfl, rfl⟩)
    go_ret
    exact ⟨rfl, rfl⟩
  · have d : decide (k < 0) = false := decide_eq_false h0
    by_cases h1 : (L : Int) ≤ k
    · have d2 : decide ((L : Int) ≤ k) = true := decide_eq_true h1
      go_enter Try.func12, Try.ntmps12
      go_wp2_with (go_at_call 20; refine H.out.mono ?_; rintro e w' ⟨rfl, rfl⟩)
      go_ret
      exact ⟨rfl, rfl⟩
    · have d2 : decide ((L : Int) ≤ k) = false := decide_eq_false h1
      have d3 : ((n : Int) != 512) = true := by rw [bne_iff_ne]; omega
      go_enter Try.func12, Try.ntmps12
      go_wp2_with (go_at_call 20; refine H.out.mono ?_; rintro e w' ⟨rfl, rfl⟩)
      go_ret
      exact ⟨rfl, rfl⟩
theorem write_dies (n : Nat) {ad : Addr} {cap : Nat} {l : List Nat} (hb : BytesAt w (some ad) l) (hl5 : l.length = 512) (hd : S.dead = false) (hn : n < S.pages.length) (hf : S.fuse = some 0) :
    Calls Try.prog 12 #[.pointer (some ⟨x.g, 0, none⟩), .int .i64 (n : Int), .slice (some ad) 512 cap] w (Did w x { S with dead := true, torn := some (n, l) } (.int .i64 9)) := by
  have HD := dead_any h
  rw [hd] at HD
  have H := Lib.hid HD
  have HA := Lib.hid (fun V (hV : Below w.heap.size w V) => alive_dies (dev_below h hV) hf)
  have hl : S.pages.length = x.P.length := by rw [← h.sure.is, List.length_map]
  rw [hl] at hn
  generalize hQ : Did w x { S with dead := true, torn := some (n, l) } (.int .i64 9) = Q
  have HQ := Lib.hid hQ
  obtain ⟨f0, f1, f2, f3, f4, f5, f6, f7, f8, f9, f10, f11, f12, fz⟩ := row13 h.cells
  obtain ⟨ao, cap2, hv, hle, hmx, -⟩ := slc_form h.sure.slc
  rw [hv] at f0
  have HN := Lib.hid hn
  have hfew := h.sure.few
  generalize x.P.length = L at f0 hle hn hfew
  have HLD := Lib.hid (load_bytes hb hl5)
  have HB := Lib.hid hb; have HL5 := Lib.hid hl5
  have d : decide ((n : Int) < 0) = false := decide_eq_false (by omega)
  have d2 : decide (L ≤ n) = false := decide_eq_false (by omega)
  obtain ⟨i0, hi0, hiz⟩ := Option.map_eq_some_iff.1 info69z
  have HI0 := Lib.hid hi0; have HIZ := Lib.hid hiz
  have HS69 := Lib.hid (size69 l hl5)
  have HNS : Hid (Noughts.size = (u8c l).size) := Lib.hid (by rw [noughts_size]; simp [u8c, hl5])
  have h0 := Lib.hid h
  clear HD h hd hf hQ hv f1 f2 f3 f4 f5 f6 f7 f8 f9 f10 f11 f12 fz hl hb hl5 hi0 hiz
  have harr := arr_at ad cap
  go_enter Try.func12, Try.ntmps12
  go_wp2_with (first | (go_at_call 20; refine H.out.mono ?_; rintro e w' ⟨rfl, rfl⟩) | (refine wpList_load_arr rfl 69 (.tmp 30) rfl ad rfl (u8c l) HLD.out ?_) | (refine wpList_alloc_row rfl 69 rfl i0 HI0.out Noughts HIZ.out ?_) | (refine wpList_store_row rfl 69 (.tmp 7) _ rfl w.heap.size (u8c l) rfl rfl 69 _ (cells_new w 69 Noughts) HS69.out HNS.out (u8c_one l) ?_))
  obtain ⟨b0, lf, wc⟩ := write_world w n HL5.out HB.out.1
  generalize ((w.alloc (.cells Noughts 69)).setRow w.heap.size (u8c l)).alloc (.cells #[.int .i64 (n : Int), .pointer (some ⟨w.heap.size, 0, none⟩)] 72) = W at b0 lf wc ⊢
  have HB0 := Lib.hid b0; have HLF := Lib.hid lf; have HWC := Lib.hid wc
  clear b0 lf wc f0
  refine (HA.out W HB0.out).mono ?_
  rintro e w1 ⟨rfl, h1, h2⟩
  have H1 := Lib.hid h1; have H2 := Lib.hid h2
  clear h1 h2
  obtain ⟨f0, f1, f2, f3, f4, f5, f6, f7, f8, f9, f10, f11, f12, fz⟩ := row13 H1.out.cells
  clear f0 f1 f2 f4 f5 f6 f7 f8 f9 f10 f11 f12
  go_wp2
  rw [← HQ.out]
  have hsz := dev_size (h0.out)
  have hg := hsz x.g (.inl rfl)
  have hn1 : ¬ Ex x w.heap.size := fun e => Nat.lt_irrefl _ (hsz _ e)
  have hn2 : ¬ Ex x (w.heap.size + 1) := fun e => by have := hsz _ e; omega
  have hW : w.heap.size + 1 < W.heap.size := (Array.getElem?_eq_some_iff.1 HWC.out).1
  have hT := turned_gg (o := 3) H2.out (.pointer (some ⟨w.heap.size + 1, 0, none⟩))
  have hlf2 := leaf_kept HLF.out (hT.block w.heap.size (by omega) (fun e => hn1 (.inl e)))
  have hw2 := cells_turned HWC.out hT (fun e => hn2 (.inl e))
  have hd := dev_torn H1.out (turned_g _) HN.out hlf2 hn1 (Nat.lt_of_lt_of_le (show w.heap.size < W.heap.size by omega) H2.out.size) hw2 hn2 (Nat.lt_of_lt_of_le hW H2.out.size) (cells_setCell (o := 3) (v := .pointer (some ⟨w.heap.size + 1, 0, none⟩)) H1.out.cells)
  refine ⟨_, rfl, hd, rfl, ?_, fun _ h => .inl h, fun k hk => ?_⟩
  · exact (Turned.of_below HB0.out).trans (hT.mono (E' := Ex x) (fun _ e => .inl e)) (fun _ h => .inl h)
  · rcases hk with hk | rfl | rfl
    · exact .inl hk
    · exact .inr (Nat.le_refl _)
    · exact .inr (Nat.le_succ _)
set_option maxRecDepth 100000 in
set_option maxHeartbeats 1000000 in
theorem write_does (n : Nat) {ad : Addr} {cap : Nat} {l : List Nat} (hb : BytesAt w (some ad) l) (hl5 : l.length = 512) (hd : S.dead = false) (hn : n < S.pages.length) (hf : S.fuse ≠ some 0) (ho : S.ops < 4611686018427387904) (hwl : S.wait.length < 4398046511104) :
    Calls Try.prog 12 #[.pointer (some ⟨x.g, 0, none⟩), .int .i64 (n : Int), .slice (some ad) 512 cap] w (Did w x { S with fuse := S.fuse.map (· - 1), ops := S.ops + 1, wait := S.wait ++ [(n, l)] } (.int .i64 0)) := by
  have HD := dead_any h
  rw [hd] at HD
  have H := Lib.hid HD
  have HA := Lib.hid (fun V (hV : Below w.heap.size w V) => alive_lives (dev_below h hV) hf ho)
  have hl : S.pages.length = x.P.length := by rw [← h.sure.is, List.length_map]
  rw [hl] at hn
  generalize hQ : Did w x { S with fuse := S.fuse.map (· - 1), ops := S.ops + 1, wait := S.wait ++ [(n, l)] } (.int .i64 0) = Q
  have HQ := Lib.hid hQ
  obtain ⟨f0, f1, f2, f3, f4, f5, f6, f7, f8, f9, f10, f11, f12, fz⟩ := row13 h.cells
  obtain ⟨ao, cap2, hv, hle, hmx, -⟩ := slc_form h.sure.slc
  rw [hv] at f0
  have HN := Lib.hid hn
  have hfew := h.sure.few
  generalize x.P.length = L at f0 hle hn hfew
  have HLD := Lib.hid (load_bytes hb hl5)
  have HB := Lib.hid hb; have HL5 := Lib.hid hl5
  have d : decide ((n : Int) < 0) = false := decide_eq_false (by omega)
  have d2 : decide (L ≤ n) = false := decide_eq_false (by omega)
  obtain ⟨i0, hi0, hiz⟩ := Option.map_eq_some_iff.1 info69z
  have HI0 := Lib.hid hi0; have HIZ := Lib.hid hiz
  have HS69 := Lib.hid (size69 l hl5)
  have HNS : Hid (Noughts.size = (u8c l).size) := Lib.hid (by rw [noughts_size]; simp [u8c, hl5])
  have h0 := Lib.hid h
  clear HD h hd hf ho hQ hv f1 f2 f3 f4 f5 f6 f7 f8 f9 f10 f11 f12 fz hl hb hl5 hi0 hiz
  have harr := arr_at ad cap
  go_enter Try.func12, Try.ntmps12
  go_wp2_with (first | (go_at_call 20; refine H.out.mono ?_; rintro e w' ⟨rfl, rfl⟩) | (refine wpList_load_arr rfl 69 (.tmp 30) rfl ad rfl (u8c l) HLD.out ?_) | (refine wpList_alloc_row rfl 69 rfl i0 HI0.out Noughts HIZ.out ?_) | (refine wpList_store_row rfl 69 (.tmp 7) _ rfl w.heap.size (u8c l) rfl rfl 69 _ (cells_new w 69 Noughts) HS69.out HNS.out (u8c_one l) ?_))
  obtain ⟨b0, lf, wc⟩ := write_world w n HL5.out HB.out.1
  generalize ((w.alloc (.cells Noughts 69)).setRow w.heap.size (u8c l)).alloc (.cells #[.int .i64 (n : Int), .pointer (some ⟨w.heap.size, 0, none⟩)] 72) = W at b0 lf wc ⊢
  have HB0 := Lib.hid b0; have HLF := Lib.hid lf; have HWC := Lib.hid wc
  clear b0 lf wc f0
  refine (HA.out W HB0.out).mono ?_
  rintro e w1 ⟨rfl, ⟨left, h1⟩, h2⟩
  have H1 := Lib.hid h1; have H2 := Lib.hid h2
  clear h1 h2
  have hsz := dev_size h0.out
  have hn1 : ¬ Ex x w.heap.size := fun e => Nat.lt_irrefl _ (hsz _ e)
  have hn2 : ¬ Ex x (w.heap.size + 1) := fun e => by have := hsz _ e; omega
  have hw1 := cells_turned HWC.out H2.out (fun e => hn2 (.inl e))
  have hl1 := leaf_kept HLF.out (H2.out.block w.heap.size (by have := (Array.getElem?_eq_some_iff.1 HWC.out).1; omega) (fun e => hn1 (.inl e)))
  obtain ⟨f0, f1, f2, f3, f4, f5, f6, f7, f8, f9, f10, f11, f12, fz⟩ := row13 H1.out.cells
  have c1 := cell_of_row _ _ 1 _ _ _ hw1
  have c0 := cell_of_row _ _ 0 _ _ _ hw1
  simp only [ptr, Option.map_some, List.getElem?_toArray, List.getElem?_cons_zero, List.getElem?_cons_succ] at c0 c1
  have HW1 := Lib.hid hw1; have HL1 := Lib.hid hl1; have HN1 := Lib.hid hn1; have HN2 := Lib.hid hn2
  clear f0 f3 f4 f5 f6 f7 f8 f9 f10 f11 f12 hw1 hl1 hn1 hn2 hsz
  go_wp2
  go_still_tail 7, (by kernel_rfl)
  have HCN : Hid (x.cnt < maxLen) := by
    have h7 : x.cnt ≤ x.wl.length := H1.out.last.few
    have h8 : x.wl.length = S.wait.length := by rw [← h0.out.wait.is, List.length_map]
    exact Lib.hid (by unfold maxLen; omega)
  have hkey : keyOf Try.prog 3 (.int .i64 (n : Int)) = some (.int .i64 (n : Int)) := Go.Maps.keyOf_int_mk Try.underlying3 (WalkArith.wf_i64 (by omega))
  refine wpList_mapUpdate_own _ rfl (.tmp 43) (.tmp 44) (.tmp 46) 62 rfl 3 70 keysInt Try.underlying62 asIs x.mb x.cnt x.D rfl H1.out.last.own HCN.out _ _ _ rfl rfl hkey (.held (ptr (some w.heap.size))) [] rfl ?_
  intro w2 ho2 hg2
  have hT2 : Turned (fun k => some x.mb = some k) w1 w2 := ⟨hg2.os, hg2.tape, hg2.output, hg2.size, fun k hk hn => hg2.block k hk (fun e => hn e.symm)⟩
  have HT2 := Lib.hid hT2; have HO2 := Lib.hid ho2
  obtain ⟨aw, cw, hvw, hlw, hmw, -⟩ := slc_form H1.out.wait.slc
  simp only at hvw f2
  rw [hvw] at f2
  have hgm : ¬ (some x.mb = some x.g) := fun e => H1.out.apart.1 (Option.some.inj e).symm
  have hmt : ¬ (some x.mb = some (w.heap.size + 1)) := fun e => HN2.out (.inr (.inl (Option.some.inj e).symm))
  have p2 := cell_turned f2 hT2 hgm
  have p0 := cell_turned c0 hT2 hmt
  have p1 := cell_turned c1 hT2 hmt
  have hgs : x.g < w1.heap.size := dev_size H1.out _ (.inl rfl)
  have hg2s : x.g < w2.heap.size := Nat.lt_of_lt_of_le hgs hT2.size
  have hts : w.heap.size + 1 < w2.heap.size := Nat.lt_of_lt_of_le (Array.getElem?_eq_some_iff.1 HW1.out).1 hT2.size
  have hsl := H1.out.wait.slc
  simp only at hsl
  rw [hvw] at hsl
  have HSW := Lib.hid (slc_turned hsl hT2 (fun b e e' => H1.out.apart.2.2.2.2.1 (by show x.wb = some x.mb; rw [e, ← e'])))
  have HVW := Lib.hid hvw
  have hwbg : ¬ (x.wb = some x.g) := H1.out.apart.2.2.2.1
  have hwbt : ¬ (x.wb = some (w.heap.size + 1)) := fun e => HN2.out (.inr (.inr (.inr (.inl e))))
  obtain ⟨iw, RW⟩ := rowWait
  have HRW := Lib.hid RW
  obtain ⟨nw, hnw⟩ : ∃ nw, nw = x.wl.length := ⟨_, rfl⟩
  have hnwb : nw < 4398046511104 := by rw [hnw, ← List.length_map (f := fun y : Nat × Nat × List Nat => (y.1, y.2.2)), h0.out.wait.is]; exact hwl
  rw [← hnw] at p2 HSW HVW
  have HNW := Lib.hid hnw
  have hfz2 : ∀ j, w2.frozen? ⟨x.g, j, none⟩ = false := fun j => (World.frozen?_of_block (a := ⟨x.g, j, none⟩) (hT2.block x.g hgs hgm)).trans (fz j)
  clear f1 f2 c0 c1 hT2 ho2 hg2 hvw hsl RW hnw hlw hmw hkey hmt hgm fz hgs
  go_wp2
  go_region_law
    ((refine step_slc HRW.out rfl (.tmp 51) (.tmp 53) 63 rfl (by rfl) (by rfl) (slc_kept HSW.out (by simp) (fun b e => (below_alloc w2 _).block b (slc_lt HSW.out b e))) (wait_src (g := w2.heap.size) (n := n) (pb := w.heap.size) (cell_of_row _ _ 0 _ _ _ (cells_new w2 72 _)) (cell_of_row _ _ 1 _ _ _ (cells_new w2 72 _))) rfl (by unfold maxLen; omega) (by omega) ?_; intro ao3 cap3 bo w3 g1 g2 g3; have G1 := Lib.hid g1; have g2' : Turned (fun k => x.wb = some k) w2 w3 := Turned.trans (E' := fun k => x.wb = some k) (by first | exact ((Turned.refl _ w2).alloc _).drew | exact ((Turned.refl _ w2).drew).alloc _) g2 (fun _ h => .inl h); have G2 := Lib.hid g2'; have G3 := Lib.hid g3; have q2 := cell_turned p2 g2' hwbg; have q0 := cell_turned p0 g2' hwbt; have q1 := cell_turned p1 g2' hwbt; have qz : w3.frozen? ⟨x.g, 2, none⟩ = false := (World.frozen?_of_block (a := ⟨x.g, 2, none⟩) (g2'.block x.g hg2s hwbg)).trans (hfz2 2); clear g1 g2 g2' g3))
  all_goals
    go_wp2
    rw [← HQ.out]
    have hTm : Turned (fun k => k = x.mb ∨ x.wb = some k) w1 w3 := (HT2.out.mono (E' := fun k => k = x.mb ∨ x.wb = some k) (fun k e => .inl (Option.some.inj e).symm)).trans (G2.out.mono (E' := fun k => k = x.mb ∨ x.wb = some k) (fun k e => .inr e)) (fun _ h => .inl h)
    have hT13 : Turned (fun k => k = x.g ∨ k = x.mb ∨ x.wb = some k) w1 w3 := hTm.mono (fun k e => .inr e)
    have hT1 := hT13.setCell (p := ⟨x.g, 2, none⟩) (.inl (.inl rfl)) (.slice ao3 (nw + 1) cap3)
    have hnot : ∀ k, ¬ Ex x k → ¬ (k = x.g ∨ k = x.mb ∨ x.wb = some k) := fun k hk e => hk (by
      rcases e with e | e | e
      · exact .inl e
      · exact .inr (.inl e)
      · exact .inr (.inr (.inr (.inl e))))
    have hps1 : w.heap.size < w1.heap.size := by have := (Array.getElem?_eq_some_iff.1 HW1.out).1; omega
    have hlf := leaf_kept HL1.out (hT1.block w.heap.size hps1 (hnot _ HN1.out))
    have hgm : ¬ (x.g = x.mb ∨ x.wb = some x.g) := fun e => by
      rcases e with e | e
      · exact H1.out.apart.1 e
      · exact hwbg e
    have hc := cells_setCell (o := 2) (v := .slice ao3 (nw + 1) cap3) (cells_turned H1.out.cells hTm hgm)
    have hmk : ((w3.setCell ⟨x.g, 2, none⟩ (.slice ao3 (nw + 1) cap3)).heap[x.mb]?) = w2.heap[x.mb]? := by
      rw [Below.heap_setCell _ _ _ _ (fun e => H1.out.apart.1 e.symm)]
      exact G2.out.block x.mb (HO2.out.lt) (fun e => H1.out.apart.2.2.2.2.1 e)
    have hom : (w3.setCell ⟨x.g, 2, none⟩ (.slice ao3 (nw + 1) cap3)).ownsMap Try.prog 3 asIs x.mb (x.cnt + 1) (x.D.put (.int .i64 (n : Int)) (.held (ptr (some w.heap.size)))) := by
      obtain ⟨es, clock, hb, hf⟩ := HO2.out
      exact ⟨es, clock, hmk.trans hb, hf⟩
    have hnlt : n < x.P.length := HN.out
    have hL := dlast_put (l := l) H1.out.last hnlt hom
    have hsl : Slc (w3.setCell ⟨x.g, 2, none⟩ (.slice ao3 (nw + 1) cap3)) bo 2 (.slice ao3 (nw + 1) cap3) (x.wl.length + 1) (wcells (x.wl ++ [(n, w.heap.size, l)])) := by
      rw [wcells_snoc, ← HNW.out]
      refine slc_turned G1.out (turned_g _) (fun b e e' => ?_)
      rcases G3.out with e2 | e2
      · exact hwbg (by rw [← e2, e, e'])
      · rw [e2] at e
        have h8 : w2.heap.size + 1 = b := by simpa using Option.some.inj e
        omega
    have hd := dev_write H1.out hT1 hnlt hlf HN1.out hps1 hc hL hsl (by
      rcases G3.out with e2 | e2
      · exact .inl e2
      · refine .inr (fun b e => ?_)
        rw [e2] at e
        have h8 : w2.heap.size + 1 = b := by simpa using Option.some.inj e
        have := HT2.out.size
        omega) (by show S.wait.length + 1 ≤ S.ops + 1; have := h0.out.num.2.2.2.2.2; omega)
    have hsub : ∀ k, (k = x.g ∨ k = x.mb ∨ x.wb = some k) → Ex x k := fun k e => by
      rcases e with e | e | e
      · exact .inl e
      · exact .inr (.inl e)
      · exact .inr (.inr (.inr (.inl e)))
    have hw1s : w.heap.size ≤ w1.heap.size := by omega
    have hw12 := HT2.out.size
    refine ⟨_, rfl, hd, rfl, ?_, fun k hk => ?_, fun k hk => ?_⟩
    · exact ((Turned.of_below HB0.out).trans (H2.out.mono (E' := Ex x) (fun _ e => .inl e)) (fun _ h => .inl h)).trans (hT1.mono hsub) (fun _ h => .inl h)
    · rcases hk with e | e | e | e | e
      · exact .inl (.inl e)
      · exact .inl (.inr (.inl e))
      · exact .inl (.inr (.inr (.inl e)))
      · rcases G3.out with e2 | e2
        · exact .inl (.inr (.inr (.inr (.inl (e2.symm.trans e)))))
        · have e3 : bo = some k := e
          rw [e2] at e3
          have h8 : w2.heap.size + 1 = k := by simpa using Option.some.inj e3
          exact .inr (by omega)
      · exact .inl (.inr (.inr (.inr (.inr e))))
    · rcases hk with hk | rfl
      · exact .inl hk
      · exact .inr (Nat.le_refl _)
end
end Go.Proofs.Ytikcanbhdickgaa

/- A page that is torn. -/
import Derived.Test.YtikcanbhdickgaaDskCrash
namespace Go.Proofs.Ytikcanbhdickgaa
open Go.ChangeShapes Go.WideShapes Go.ChangeAt Go.RowKit

theorem size5 : (Try.prog.info? 5).map (·.size) = some 1 := by kernel_rfl
theorem u8s_splice (zs cs : List Nat) (a : Nat) : splice (u8s zs) a (u8s cs) = u8s (splice zs a cs) := by
  simp [splice, u8s, List.map_take, List.map_drop]
/-- A page, its first bytes of another. -/
def torn1 (l old : List Nat) (k : Nat) : List Nat := l.take (128 * k) ++ old.drop (128 * k)
theorem u8s_noughts : (u8s noughts).length = 512 := by rw [u8s, List.length_map, noughts, List.length_replicate]
theorem arrLen : Try.prog.arrayLen 69 = 512 ∧ Try.prog.elem 69 = 5 := by constructor <;> kernel_rfl
theorem slice_arr (V : World) (p : Nat) {K : Nat} (hK : K ≤ 512) : (Instr.sliceAt 69 (.pointer (some ⟨p, 0, none⟩)) none (some (.int .i64 (K : Int))) none).run Try.prog V = .ok (.slice (some ⟨p, 0, none⟩) K 512) V := by
  have := run_sliceAt_array_h (P := Try.prog) V 69 ⟨p, 0, none⟩ (by rw [arrLen.1, arrLen.2]; exact Try.underlying69) .i64 K (by omega) (by rw [arrLen.1]; omega)
  rw [this, arrLen.1, arrLen.2]
  obtain ⟨i, hi, hs⟩ := Option.map_eq_some_iff.1 size5
  simp [sizeOf, typeInfo, hi, hs, slicedAt]
  unfold Addr.add; split <;> simp_all
theorem noughts_leaf : noughts.length = 512 ∧ ∀ c ∈ noughts, c < 256 := ⟨by rw [noughts, List.length_replicate], fun c hc => by rw [noughts, List.mem_replicate] at hc; omega⟩
theorem page_leaf {w : World} {S : Dsk} {x : Gh} (h : Dev w S x) {n : Nat} (hn : n < x.P.length) : LeafO w x.I (x.P.getD n (none, [])).1 (S.pages.getD n []) := by
  have e : S.pages.getD n [] = (x.P.getD n (none, [])).2 := by
    rw [← h.sure.is]; simp [List.getD, hn]
  have e2 : x.P.getD n (none, []) = x.P[n] := by simp [List.getD, hn]
  rw [e, e2]
  exact h.sure.leaf _ (List.getElem_mem hn)
theorem tear_end {w w5 : World} {S : Dsk} {x : Gh} (h : Dev w S x) (hb : Below w.heap.size w w5) {n k K b off cap : Nat} {l old : List Nat} (hK : 128 * k = K) (hK5 : K ≤ 512) (hl : l.length = 512 ∧ ∀ c ∈ l, c < 256) (hold : old.length = 512 ∧ ∀ c ∈ old, c < 256) (he : S.pages.getD n [] = old)
    (hc : w5.heap[w.heap.size + 1]? = some (.cells (splice (u8s old) 0 (u8s (l.take K))).toArray 69 (0, 0))) (hn : n < x.P.length) (hsb : x.sb = some b) (hsv : x.sv = .slice (some ⟨b, off, none⟩) x.P.length cap) :
    Turned (fun j => x.sb = some j) w (w5.setCell ⟨b, off + n, none⟩ (.pointer (some ⟨w.heap.size + 1, 0, none⟩))).drew ∧ ∃ q, w.heap.size ≤ q ∧ q < (w5.setCell ⟨b, off + n, none⟩ (.pointer (some ⟨w.heap.size + 1, 0, none⟩))).drew.heap.size ∧
      Dev (w5.setCell ⟨b, off + n, none⟩ (.pointer (some ⟨w.heap.size + 1, 0, none⟩))).drew { S with pages := S.pages.set n (torn1 l (S.pages.getD n []) k) } { x with P := x.P.set n (some q, torn1 l (S.pages.getD n []) k), I := fun j => x.I j ∨ j = q } := by
  have hp : w.heap.size + 1 < w5.heap.size := (Array.getElem?_eq_some_iff.1 hc).1
  have hlf : Leaf w5 (w.heap.size + 1) (torn1 l (S.pages.getD n []) k) := by
    refine ⟨?_, ?_, ?_⟩
    · unfold Cells
      rw [hc, u8s_splice, he]
      have : splice old 0 (l.take K) = torn1 l old k := by
        simp [splice, torn1, hK, hl.1, Nat.min_eq_left hK5]
      rw [this]; rfl
    · rw [torn1, he, hK, List.length_append, List.length_take, List.length_drop, hl.1, hold.1]; omega
    · intro c hc
      rw [torn1, he] at hc
      rcases List.mem_append.1 hc with h1 | h1
      · exact hl.2 c (List.mem_of_mem_take h1)
      · exact hold.2 c (List.mem_of_mem_drop h1)
  have hd := dev_put (dev_below h hb) hsb hsv hn hlf (fun e => by have := dev_size h _ e; omega) hp
  refine ⟨?_, w.heap.size + 1, Nat.le_succ _, ?_, dev_kept hd (Nat.le_refl _) (fun _ _ => rfl)⟩
  · exact (((Turned.refl _ w).below hb).setCell (p := ⟨b, off + n, none⟩) (.inl hsb) _).drew
  · simpa [World.setCell, World.drew] using hp
section
variable {w : World} {S : Dsk} {x : Gh} (h : Dev w S x)
include h
theorem tear_none {n k pb : Nat} {l : List Nat} (hn : n < S.pages.length) (hlf : Leaf w pb l) (_hpb : ¬ Ex x pb) (hk : k ≤ 4) (ho : (x.P.getD n (none, [])).1 = none) :
    Calls Try.prog 40 #[.pointer (some ⟨x.g, 0, none⟩), .agg #[.int .i64 (n : Int), .pointer (some ⟨pb, 0, none⟩)], .int .i64 (k : Int)] w fun e w' =>
      e = .returned (.tuple #[]) ∧ Turned (fun j => x.sb = some j) w w' ∧ ∃ q, w.heap.size ≤ q ∧ q < w'.heap.size ∧ Dev w' { S with pages := S.pages.set n (torn1 l (S.pages.getD n []) k) } { x with P := x.P.set n (some q, torn1 l (S.pages.getD n []) k), I := fun j => x.I j ∨ j = q } := by
  have hl : S.pages.length = x.P.length := by rw [← h.sure.is, List.length_map]
  rw [hl] at hn
  obtain ⟨b, off, cap, hsb, hsv, hbs, hle, hmx, hcell, hfz⟩ := slc_cell h.sure.slc hn (ptr (x.P.getD n (none, [])).1) (by rw [List.getElem?_map, List.getElem?_eq_getElem hn]; simp [List.getD, hn])
  obtain ⟨f0, f1, f2, f3, f4, f5, f6, f7, f8, f9, f10, f11, f12, fz⟩ := row13 h.cells
  rw [hsv] at f0
  rw [ho] at hcell
  simp only [ptr, Option.map_none] at hcell
  generalize hQ : (fun e w' => e = .returned (.tuple #[]) ∧ Turned (fun j => x.sb = some j) w w' ∧ ∃ q, w.heap.size ≤ q ∧ q < w'.heap.size ∧ Dev w' { S with pages := S.pages.set n (torn1 l (S.pages.getD n []) k) } { x with P := x.P.set n (some q, torn1 l (S.pages.getD n []) k), I := fun j => x.I j ∨ j = q } : Ending → World → Prop) = Q
  have HQ := Lib.hid hQ
  obtain ⟨i0, hi0, hiz⟩ := Option.map_eq_some_iff.1 info69z
  have HI0 := Lib.hid hi0; have HIZ := Lib.hid hiz
  have hfew := h.sure.few
  have H := Lib.hid h; have HLF := Lib.hid hlf; have HN := Lib.hid hn; have HSB := Lib.hid hsb; have HSV := Lib.hid hsv
  generalize x.P.length = L at f0 hn hle hfew
  have d1 : decide ((n : Int) < 0) = false := decide_eq_false (by omega)
  have d2 : decide ((L : Int) ≤ n) = false := decide_eq_false (by omega)
  have d3 : decide (L ≤ n) = false := decide_eq_false (by omega)
  clear f1 f2 f3 f4 f5 f6 f7 f8 f9 f10 f11 f12 fz h hQ hi0 hiz hl hsb hsv hlf
  go_enter Try.func40, Try.ntmps40
  go_wp2_with (refine wpList_alloc_row rfl 69 rfl i0 HI0.out Noughts HIZ.out ?_)
  have hs1 : (w.alloc (.cells #[.int .i64 (n : Int), .pointer (some ⟨pb, 0, none⟩)] 72)).heap.size = w.heap.size + 1 := size_alloc _ _
  have t0 := cells_alloc (cells_new w 72 #[.int .i64 (n : Int), .pointer (some ⟨pb, 0, none⟩)]) (.cells Noughts 69)
  have p0 := cells_new (w.alloc (.cells #[.int .i64 (n : Int), .pointer (some ⟨pb, 0, none⟩)] 72)) 69 Noughts
  have hb0 : Below w.heap.size w ((w.alloc (.cells #[.int .i64 (n : Int), .pointer (some ⟨pb, 0, none⟩)] 72)).alloc (.cells Noughts 69)) := (below_alloc w _).alloc (by rw [hs1]; omega) _
  rw [hs1] at p0
  rw [hs1]
  generalize (w.alloc (.cells #[.int .i64 (n : Int), .pointer (some ⟨pb, 0, none⟩)] 72)).alloc (.cells Noughts 69) = W at t0 p0 hb0 ⊢
  have g0 := (hb0.cell (World.block_lt_of_cell? w _ f0)).trans f0
  have gc := (hb0.cell (World.block_lt_of_cell? w _ hcell)).trans hcell
  have gz := (hb0.frozen (p := ⟨b, off + n, none⟩) hbs).trans hfz
  have c0 := cell_of_row _ _ 0 _ _ _ t0
  have c1 := cell_of_row _ _ 1 _ _ _ t0
  simp only [List.getElem?_toArray, List.getElem?_cons_zero, List.getElem?_cons_succ] at c0 c1
  have HP := Lib.hid p0; have HB := Lib.hid hb0; have HBS := Lib.hid hbs
  have HF0 := Lib.hid f0; have HFC := Lib.hid hcell; have HFZ := Lib.hid hfz
  clear f0 hcell hfz t0 p0 hb0 hs1
  go_wp2
  go_quiet (fail)
  go_wp2
  have hwk : IntKind.i64.wrap ((k : Int) * 128) = ((128 * k : Nat) : Int) := by
    rw [IntWalk.i64_in _ (by omega)]; omega
  have hs5 : ∀ V, (Instr.sliceAt 69 (.pointer (some ⟨w.heap.size + 1, 0, none⟩)) none (some (.int .i64 ((128 * k : Nat) : Int))) none).run Try.prog V = .ok (.slice (some ⟨w.heap.size + 1, 0, none⟩) (128 * k) 512) V := fun V => slice_arr V _ (by omega)
  have HLB : Hid ((u8s (l.take (128 * k))).length = Nat.min 512 (128 * k)) := Lib.hid (by rw [show Nat.min 512 (128 * k) = 128 * k from Nat.min_eq_right (by omega)]; simp [u8s, HLF.out.2.1]; omega)
  have HP2 : Hid (Cells (W.drewN nq) (w.heap.size + 1) 69 Noughts) := Lib.hid HP.out
  have HB2 : Hid (Below w.heap.size w (W.drewN nq)) := Lib.hid (below_drewN HB.out nq)
  have g0' : (W.drewN nq).cell? ⟨x.g, 0, none⟩ = some (.slice (some ⟨b, off, none⟩) L cap) := g0
  have gc' : (W.drewN nq).cell? ⟨b, off + n, none⟩ = some (.pointer none) := gc
  have gz' : (W.drewN nq).frozen? ⟨b, off + n, none⟩ = false := gz
  have c0' : (W.drewN nq).cell? ⟨w.heap.size, 0, none⟩ = some (.int .i64 (n : Int)) := c0
  have c1' : (W.drewN nq).cell? ⟨w.heap.size, 1, none⟩ = some (.pointer (some ⟨pb, 0, none⟩)) := c1
  clear g0 gc gz c0 c1 HP HB
  generalize W.drewN nq = V at HP2 HB2 g0' gc' gz' c0' c1' ⊢
  generalize hK : 128 * k = K at hwk hs5 HLB
  have HKK := Lib.hid hK
  have hK5 : K ≤ 512 := by omega
  have HK5 := Lib.hid hK5
  clear hK
  have hpl := HLF.out.1
  have hps : pb < w.heap.size := (Array.getElem?_eq_some_iff.1 HLF.out.1).1
  have HSRC : Hid (∀ j v, (u8s (l.take K))[j]? = some v → V.cell? ((⟨pb, 0, none⟩ : Addr).add j) = some v) := Lib.hid (fun j v hv => by
    have e : (⟨pb, 0, none⟩ : Addr).add j = ⟨pb, 0 + j, none⟩ := by unfold Addr.add; split <;> simp_all
    rw [e, HB2.out.cell (p := ⟨pb, 0 + j, none⟩) hps, cell_of_row _ _ _ _ _ _ HLF.out.1]
    simp only [u8s, List.getElem?_map, List.getElem?_take] at hv
    split at hv
    · simpa [u8c] using hv
    · cases hv)
  clear hpl
  go_region_law (refine step_copy_splice rfl (.tmp 23) (.tmp 27) 28 28 rfl 5 Try.underlying28 size5 (some ⟨w.heap.size + 1, 0, none⟩) (some ⟨pb, 0, none⟩) K 512 512 512 (by simp [Act.eval, Act.put]) (by simp [Act.eval, Act.put]) (w.heap.size + 1) 0 (u8s noughts) 69 HP2.out (u8s (l.take K)) HLB.out (fun _ => ⟨rfl, _, rfl, HSRC.out⟩) (by rw [HLB.out, show Nat.min 512 K = K from Nat.min_eq_right HK5.out, u8s_noughts]; have := HK5.out; omega) (u8s_one _) (w.heap.size + 1) V.drew (Below.refl _ _) (Nat.le_refl _) ?_; intro w5 hg5 hb5; have HG5 := Lib.hid hg5.out; have HB5 := Lib.hid hb5; clear hg5 hb5)
  all_goals
    have hbw : Below w.heap.size w w5 := HB2.out.drew.trans (HB5.out.mono (Nat.le_succ _))
    have q0 := (hbw.cell (World.block_lt_of_cell? w _ HF0.out)).trans HF0.out
    have qc := (hbw.cell (World.block_lt_of_cell? w _ HFC.out)).trans HFC.out
    have qz := (hbw.frozen (p := ⟨b, off + n, none⟩) HBS.out).trans HFZ.out
    have e0 := (HB5.out.cell (p := ⟨w.heap.size, 0, none⟩) (Nat.lt_succ_self _)).trans c0'
    have HBW := Lib.hid hbw
    clear g0' gc' gz' c0' c1' hwk hs5 hK5 hps hbw
    go_wp2
    go_still_tail 7, (by kernel_rfl)
    go_wp2
    go_end0
    rw [← HQ.out]
    have he : S.pages.getD n [] = noughts := by
      rcases page_leaf H.out HN.out with ⟨_, e⟩ | ⟨b', e, _⟩
      · exact e
      · rw [ho] at e; cases e
    exact ⟨rfl, tear_end H.out HBW.out HKK.out HK5.out HLF.out.2 noughts_leaf he HG5.out HN.out HSB.out HSV.out⟩
theorem tear_some {n k pb ob : Nat} {l : List Nat} (hn : n < S.pages.length) (hlf : Leaf w pb l) (_hpb : ¬ Ex x pb) (hk : k ≤ 4) (ho : (x.P.getD n (none, [])).1 = some ob) :
    Calls Try.prog 40 #[.pointer (some ⟨x.g, 0, none⟩), .agg #[.int .i64 (n : Int), .pointer (some ⟨pb, 0, none⟩)], .int .i64 (k : Int)] w fun e w' =>
      e = .returned (.tuple #[]) ∧ Turned (fun j => x.sb = some j) w w' ∧ ∃ q, w.heap.size ≤ q ∧ q < w'.heap.size ∧ Dev w' { S with pages := S.pages.set n (torn1 l (S.pages.getD n []) k) } { x with P := x.P.set n (some q, torn1 l (S.pages.getD n []) k), I := fun j => x.I j ∨ j = q } := by
  have hl : S.pages.length = x.P.length := by rw [← h.sure.is, List.length_map]
  rw [hl] at hn
  obtain ⟨b, off, cap, hsb, hsv, hbs, hle, hmx, hcell, hfz⟩ := slc_cell h.sure.slc hn (ptr (x.P.getD n (none, [])).1) (by rw [List.getElem?_map, List.getElem?_eq_getElem hn]; simp [List.getD, hn])
  obtain ⟨f0, f1, f2, f3, f4, f5, f6, f7, f8, f9, f10, f11, f12, fz⟩ := row13 h.cells
  rw [hsv] at f0
  rw [ho] at hcell
  simp only [ptr, Option.map_some] at hcell
  have hold : Leaf w ob (S.pages.getD n []) := by
    rcases page_leaf h hn with ⟨e, _⟩ | ⟨b', e, h2, _⟩
    · rw [ho] at e; cases e
    · rw [ho] at e; cases e; exact h2
  generalize hQ : (fun e w' => e = .returned (.tuple #[]) ∧ Turned (fun j => x.sb = some j) w w' ∧ ∃ q, w.heap.size ≤ q ∧ q < w'.heap.size ∧ Dev w' { S with pages := S.pages.set n (torn1 l (S.pages.getD n []) k) } { x with P := x.P.set n (some q, torn1 l (S.pages.getD n []) k), I := fun j => x.I j ∨ j = q } : Ending → World → Prop) = Q
  have HQ := Lib.hid hQ
  obtain ⟨i0, hi0, hiz⟩ := Option.map_eq_some_iff.1 info69z
  have HI0 := Lib.hid hi0; have HIZ := Lib.hid hiz
  have hfew := h.sure.few
  have HOL := Lib.hid hold; obtain ⟨old, hod⟩ : ∃ old, old = S.pages.getD n [] := ⟨_, rfl⟩; rw [← hod] at HOL; have HOD := Lib.hid hod.symm; clear hod hold
  have HS69 := Lib.hid (size69 old HOL.out.2.1)
  have HNS : Hid (Noughts.size = (u8c old).size) := Lib.hid (by rw [noughts_size]; simp [u8c, HOL.out.2.1])
  have H := Lib.hid h; have HLF := Lib.hid hlf; have HN := Lib.hid hn; have HSB := Lib.hid hsb; have HSV := Lib.hid hsv
  generalize x.P.length = L at f0 hn hle hfew
  have d1 : decide ((n : Int) < 0) = false := decide_eq_false (by omega)
  have d2 : decide ((L : Int) ≤ n) = false := decide_eq_false (by omega)
  have d3 : decide (L ≤ n) = false := decide_eq_false (by omega)
  clear f1 f2 f3 f4 f5 f6 f7 f8 f9 f10 f11 f12 fz h hQ hi0 hiz hl hsb hsv hlf
  go_enter Try.func40, Try.ntmps40
  go_wp2_with (refine wpList_alloc_row rfl 69 rfl i0 HI0.out Noughts HIZ.out ?_)
  have hs1 : (w.alloc (.cells #[.int .i64 (n : Int), .pointer (some ⟨pb, 0, none⟩)] 72)).heap.size = w.heap.size + 1 := size_alloc _ _
  have t0 := cells_alloc (cells_new w 72 #[.int .i64 (n : Int), .pointer (some ⟨pb, 0, none⟩)]) (.cells Noughts 69)
  have p0 := cells_new (w.alloc (.cells #[.int .i64 (n : Int), .pointer (some ⟨pb, 0, none⟩)] 72)) 69 Noughts
  have hb0 : Below w.heap.size w ((w.alloc (.cells #[.int .i64 (n : Int), .pointer (some ⟨pb, 0, none⟩)] 72)).alloc (.cells Noughts 69)) := (below_alloc w _).alloc (by rw [hs1]; omega) _
  rw [hs1] at p0
  rw [hs1]
  generalize (w.alloc (.cells #[.int .i64 (n : Int), .pointer (some ⟨pb, 0, none⟩)] 72)).alloc (.cells Noughts 69) = W at t0 p0 hb0 ⊢
  have g0 := (hb0.cell (World.block_lt_of_cell? w _ f0)).trans f0
  have gc := (hb0.cell (World.block_lt_of_cell? w _ hcell)).trans hcell
  have gz := (hb0.frozen (p := ⟨b, off + n, none⟩) hbs).trans hfz
  have c0 := cell_of_row _ _ 0 _ _ _ t0
  have c1 := cell_of_row _ _ 1 _ _ _ t0
  simp only [List.getElem?_toArray, List.getElem?_cons_zero, List.getElem?_cons_succ] at c0 c1
  have HP := Lib.hid p0; have HB := Lib.hid hb0; have HBS := Lib.hid hbs
  have HF0 := Lib.hid f0; have HFC := Lib.hid hcell; have HFZ := Lib.hid hfz
  clear f0 hcell hfz t0 p0 hb0 hs1
  go_wp2
  go_quiet (fail)
  have HLD := Lib.hid (load_bytes (bytes_below (leaf_bytes HOL.out) (below_drewN HB.out nq)) HOL.out.2.1)
  have HP2 : Hid (Cells (W.drewN nq) (w.heap.size + 1) 69 Noughts) := Lib.hid HP.out
  have HB2 : Hid (Below w.heap.size w (W.drewN nq)) := Lib.hid (below_drewN HB.out nq)
  have g0' : (W.drewN nq).cell? ⟨x.g, 0, none⟩ = some (.slice (some ⟨b, off, none⟩) L cap) := g0
  have gc' : (W.drewN nq).cell? ⟨b, off + n, none⟩ = some (.pointer (some ⟨ob, 0, none⟩)) := gc
  have gz' : (W.drewN nq).frozen? ⟨b, off + n, none⟩ = false := gz
  have c0' : (W.drewN nq).cell? ⟨w.heap.size, 0, none⟩ = some (.int .i64 (n : Int)) := c0
  have c1' : (W.drewN nq).cell? ⟨w.heap.size, 1, none⟩ = some (.pointer (some ⟨pb, 0, none⟩)) := c1
  clear g0 gc gz c0 c1 HP HB
  generalize W.drewN nq = V0 at HLD HP2 HB2 g0' gc' gz' c0' c1' ⊢
  go_wp2_with (first | (refine wpList_load_arr rfl 69 (.tmp 19) rfl ⟨ob, 0, none⟩ rfl (u8c old) HLD.out ?_) | (refine wpList_store_row rfl 69 (.tmp 6) _ rfl (w.heap.size + 1) (u8c old) rfl rfl 69 _ HP2.out HS69.out HNS.out (u8c_one old) ?_))
  have HP3 : Hid (Cells (V0.setRow (w.heap.size + 1) (u8c old)) (w.heap.size + 1) 69 (u8c old)) := Lib.hid (setRow_heap _ _ Noughts (u8c old) _ _ HP2.out)
  have hb3 : Below (w.heap.size + 1) V0 (V0.setRow (w.heap.size + 1) (u8c old)) := below_setRow (Below.refl _ _) (Nat.le_refl _) _
  have HB3 : Hid (Below w.heap.size w (V0.setRow (w.heap.size + 1) (u8c old))) := Lib.hid (HB2.out.trans (hb3.mono (Nat.le_succ _)))
  have c0 := (hb3.cell (p := ⟨w.heap.size, 0, none⟩) (Nat.lt_succ_self _)).trans c0'
  have c1 := (hb3.cell (p := ⟨w.heap.size, 1, none⟩) (Nat.lt_succ_self _)).trans c1'
  clear g0' gc' gz' c0' c1' HP2 HB2 hb3 HLD
  generalize V0.setRow (w.heap.size + 1) (u8c old) = V at HP3 HB3 c0 c1 ⊢
  have HP2 := HP3; have HB2 := HB3; have c0' := c0; have c1' := c1
  clear HP3 HB3 c0 c1
  have hwk : IntKind.i64.wrap ((k : Int) * 128) = ((128 * k : Nat) : Int) := by
    rw [IntWalk.i64_in _ (by omega)]; omega
  have hs5 : ∀ V, (Instr.sliceAt 69 (.pointer (some ⟨w.heap.size + 1, 0, none⟩)) none (some (.int .i64 ((128 * k : Nat) : Int))) none).run Try.prog V = .ok (.slice (some ⟨w.heap.size + 1, 0, none⟩) (128 * k) 512) V := fun V => slice_arr V _ (by omega)
  have HLB : Hid ((u8s (l.take (128 * k))).length = Nat.min 512 (128 * k)) := Lib.hid (by rw [show Nat.min 512 (128 * k) = 128 * k from Nat.min_eq_right (by omega)]; simp [u8s, HLF.out.2.1]; omega)
  generalize hK : 128 * k = K at hwk hs5 HLB
  have HKK := Lib.hid hK
  have hK5 : K ≤ 512 := by omega
  have HK5 := Lib.hid hK5
  clear hK
  have hpl := HLF.out.1
  have hps : pb < w.heap.size := (Array.getElem?_eq_some_iff.1 HLF.out.1).1
  have HSRC : Hid (∀ j v, (u8s (l.take K))[j]? = some v → V.cell? ((⟨pb, 0, none⟩ : Addr).add j) = some v) := Lib.hid (fun j v hv => by
    have e : (⟨pb, 0, none⟩ : Addr).add j = ⟨pb, 0 + j, none⟩ := by unfold Addr.add; split <;> simp_all
    rw [e, HB2.out.cell (p := ⟨pb, 0 + j, none⟩) hps, cell_of_row _ _ _ _ _ _ HLF.out.1]
    simp only [u8s, List.getElem?_map, List.getElem?_take] at hv
    split at hv
    · simpa [u8c] using hv
    · cases hv)
  clear hpl
  go_region_law (refine step_copy_splice rfl (.tmp 23) (.tmp 27) 28 28 rfl 5 Try.underlying28 size5 (some ⟨w.heap.size + 1, 0, none⟩) (some ⟨pb, 0, none⟩) K 512 512 512 (by simp [Act.eval, Act.put]) (by simp [Act.eval, Act.put]) (w.heap.size + 1) 0 (u8s old) 69 HP2.out (u8s (l.take K)) HLB.out (fun _ => ⟨rfl, _, rfl, HSRC.out⟩) (by rw [HLB.out, show Nat.min 512 K = K from Nat.min_eq_right HK5.out, show (u8s old).length = 512 from by rw [u8s, List.length_map]; exact HOL.out.2.1]; have := HK5.out; omega) (u8s_one _) (w.heap.size + 1) V.drew (Below.refl _ _) (Nat.le_refl _) ?_; intro w5 hg5 hb5; have HG5 := Lib.hid hg5.out; have HB5 := Lib.hid hb5; clear hg5 hb5)
  all_goals
    have hbw : Below w.heap.size w w5 := HB2.out.drew.trans (HB5.out.mono (Nat.le_succ _))
    have q0 := (hbw.cell (World.block_lt_of_cell? w _ HF0.out)).trans HF0.out
    have qc := (hbw.cell (World.block_lt_of_cell? w _ HFC.out)).trans HFC.out
    have qz := (hbw.frozen (p := ⟨b, off + n, none⟩) HBS.out).trans HFZ.out
    have e0 := (HB5.out.cell (p := ⟨w.heap.size, 0, none⟩) (Nat.lt_succ_self _)).trans c0'
    have HBW := Lib.hid hbw
    clear c0' c1' hwk hs5 hK5 hps hbw
    go_wp2
    go_still_tail 7, (by kernel_rfl)
    go_wp2
    go_end0
    rw [← HQ.out]
    exact ⟨rfl, tear_end H.out HBW.out HKK.out HK5.out HLF.out.2 HOL.out.2 HOD.out HG5.out HN.out HSB.out HSV.out⟩
theorem tear_does {n k pb : Nat} {l : List Nat} (hn : n < S.pages.length) (hlf : Leaf w pb l) (hpb : ¬ Ex x pb) (hk : k ≤ 4) :
    Calls Try.prog 40 #[.pointer (some ⟨x.g, 0, none⟩), .agg #[.int .i64 (n : Int), .pointer (some ⟨pb, 0, none⟩)], .int .i64 (k : Int)] w fun e w' =>
      e = .returned (.tuple #[]) ∧ Turned (fun j => x.sb = some j) w w' ∧ ∃ q, w.heap.size ≤ q ∧ q < w'.heap.size ∧ Dev w' { S with pages := S.pages.set n (torn1 l (S.pages.getD n []) k) } { x with P := x.P.set n (some q, torn1 l (S.pages.getD n []) k), I := fun j => x.I j ∨ j = q } := by
  cases ho : (x.P.getD n (none, [])).1 with
  | none => exact tear_none h hn hlf hpb hk ho
  | some ob => exact tear_some h hn hlf hpb hk ho
end
end Go.Proofs.Ytikcanbhdickgaa

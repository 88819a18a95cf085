/- A page is opened: a contract. -/
import Derived.Test.YtaadeoobmclpcaaPagRead
import Derived.Laws.Tables
import Derived.Laws.Rows
import Derived.Laws.ResultCell
import Derived.Laws.CopyOwn
namespace Go.Proofs.Ytaadeoobmclpcaa
open Go.ChangeShapes Go.WideShapes Go.ChangeAt Go.RowKit

theorem wpList_alloc_row {P : Program} {w : World} {ops : Array Oper} {rest : List Oper} {o : Oper} {a : Act} {Q : Exit → Act → World → Prop} (hgd : o.guard = none) (t : TypeId) (ho : o.op = .alloc t)
    (i : TypeInfo) (hi : P.info? t = some i) (z : Array Value) (hz : i.zero = some (.agg z))
    (h : wpList P ops Q rest (a.put o.dst (.pointer (some ⟨w.heap.size, 0, none⟩))) (w.alloc (.cells z t))) : wpList P ops Q (o :: rest) a w := by
  refine wpList_plain hgd fun K hK => ?_
  have hrun : (Instr.alloc t true (.tuple #[])).run P w = .ok (.pointer (some ⟨w.heap.size, 0, none⟩)) (w.alloc (.cells z t)) := by
    simp [Instr.alloc, zeroValue, typeInfo, hi, hz, newVar, newRow, Value.cells]
  unfold Oper.wp execOp
  simp only [ho, Sem.run_bind, hrun, Result.andThen_ok]
  exact hK _ _ h

theorem slotsEnd_any (g : Nat) (c : Nat) (hc : c < 65536) (w : World) (h6 : w.cell? ⟨g, 6, none⟩ = some (.int .i64 (c : Int))) :
    Calls Try.prog 19 #[.pointer (some ⟨g, 0, none⟩)] w fun e w' => e = .returned (.int .i64 (26 + 4 * (c : Int))) ∧ w' = w := by
  go_enter Try.func19, Try.ntmps19
  go_wp2
  go_ret
  exact ⟨rfl, rfl⟩
/-- Marks as cells. -/
def bools (T : List Bool) : Array Value := (T.map Value.bool).toArray
theorem bools_set (T : List Bool) (j : Nat) (b : Bool) : bools (T.set j b) = (bools T).setIfInBounds j (.bool b) := by simp [bools, List.map_set]
theorem bools_get (T : List Bool) (j : Nat) (hj : j < T.length) : (bools T)[j]? = some (.bool (T.getD j false)) := by simp [bools, hj]
/-- No mark. -/
def T512 : List Bool := List.replicate 512 false
/-- The cells of no mark. -/
def Z512 : Array Value := bools T512
theorem info74 : (Try.prog.info? 58).map (·.zero) = some (some (.agg Z512)) := by kernel_rfl
theorem info58 : (Try.prog.info? 44).map (·.size) = some 8 := by kernel_rfl
theorem size58 (cs : Array Value) (h : cs.size = 8) : (Try.prog.info? 44).map (·.size) = some cs.size := by rw [info58, h]
/-- A head of noughts. -/
def head0 : Array Value := #[.int .u32 0, .int .u32 0, .int .u32 0, .int .u64 0, .int .u8 0, .int .u8 0, .int .i64 0, .int .i64 0]
/-- What opening tells. -/
def Opened (w : World) (zs : List Nat) (e : Ending) (w' : World) : Prop :=
  ∃ (cs : Array Value) (b : Bool), e = .returned (.tuple #[.agg cs, .bool b]) ∧ Below w.heap.size w w' ∧ (b = true → Good zs ∧ cs = hdCells zs) ∧ (b = false → ¬ Good zs) ∧ (cs = head0 ∨ cs = hdCells zs)
theorem cells_new (w : World) (t : TypeId) (cs : Array Value) : Cells (w.alloc (.cells cs t)) w.heap.size t cs := heap_alloc_new w _
theorem cells_alloc {w : World} {g : Nat} {t : TypeId} {cs : Array Value} (h : Cells w g t cs) (o : Obj) : Cells (w.alloc o) g t cs := by
  unfold Cells
  rw [((Below.refl w.heap.size w).alloc (Nat.le_refl _) o).block g (Array.getElem?_eq_some_iff.1 h).1]
  exact h
theorem cells_wrote {w w' : World} {g b : Nat} {t : TypeId} {cs : Array Value} (h : Cells w g t cs) (hw : Wrote b w w') (hne : g ≠ b) : Cells w' g t cs := by
  unfold Cells
  rw [hw.1.block g (Array.getElem?_eq_some_iff.1 h).1 (fun e => hne (by simpa using e))]
  exact h
theorem cells_setOther {w : World} {g b o : Nat} {t : TypeId} {cs : Array Value} {v : Value} (h : Cells w g t cs) (hne : g ≠ b) : Cells (w.setCell ⟨b, o, none⟩ v) g t cs := by
  unfold Cells
  rw [heap_setCell_other w ⟨b, o, none⟩ g v hne]
  exact h
theorem below_wrote {B g : Nat} {w w1 w2 : World} (h : Below B w w1) (hw : Wrote g w1 w2) (hB : B ≤ g) (hs : B ≤ w1.heap.size) : Below B w w2 := h.grown hw.1 hs (fun k hk => by simp at hk; omega)
theorem bytes_below {w w' : World} {a : Option Addr} {zs : List Nat} (h : BytesAt w a zs) (hb : Below w.heap.size w w') : BytesAt w' a zs :=
  ⟨h.1, h.2.1, fun j hj => by
    obtain ⟨b, off, e, hc⟩ := h.2.2 j hj
    exact ⟨b, off, e, (hb.cell (World.block_lt_of_cell? w _ hc)).trans hc⟩⟩
theorem below_alloc (w : World) (o : Obj) : Below w.heap.size w (w.alloc o) := (Below.refl _ _).alloc (Nat.le_refl _) o

theorem opened_results (tmps : Array Value) (w : World) (g : Nat) (cs : Array Value) (b : Bool) (h2 : tmps.getD 2 undef = .pointer (some ⟨g, 0, none⟩)) (h3 : tmps.getD 3 undef = .bool b)
    (hg : w.heap[g]? = some (.cells cs 44 (0, 0))) (hs : (Try.prog.info? 44).map (·.size) = some cs.size) :
    (results Try.f16 tmps).run Try.prog w = .ok (.tuple #[.agg cs, .bool b]) w := by
  rw [results_cell_tmp Try.results16]
  simp only [h2, h3, asAddr, Sem.run_pure, Result.andThen_ok, run_loadVar_row (P := Try.prog) w g 44 44 cs (0, 0) _ hg Try.underlying44 rfl hs]
set_option maxHeartbeats 1000000 in
theorem open_short (a : Option Addr) (cap : Nat) (zs : List Nat) (w : World) (hl : zs.length ≠ 512) :
    Calls Try.prog 16 #[.slice a zs.length cap] w (Opened w zs) := by
  have hl1 : ((zs.length : Int) != 512) = true := by rw [bne_iff_ne]; omega
  have HL := Lib.hid hl; clear hl
  go_enter Try.func16, Try.ntmps16
  go_wp2
  refine bodyPost_ret (v := .tuple #[.agg head0, .bool false]) (by simp [results, Try.results16, go_sem, head0]) rfl ⟨_, _, rfl, ?_, (fun h => by cases h), (fun _ h => HL.out h.1), .inl rfl⟩
  exact ((Below.refl _ _).alloc (Nat.le_refl _) _).alloc (by simp) _

/-- What the loops of open keep. -/
def InOpen (w wr : World) (B2 : Nat) (zs : List Nat) (T : List Bool) : Prop := Cells wr (w.heap.size + 1) 44 (hdCells zs) ∧ Cells wr w.heap.size 44 head0 ∧ Cells wr B2 58 (bools T) ∧ Below w.heap.size w wr ∧ T.length = 512
theorem inOpen_ng {w wr : World} {B2 : Nat} {zs : List Nat} {T : List Bool} (h : InOpen w wr B2 zs T) (hg : ¬ Good zs) : Opened w zs (.returned (.tuple #[.agg (hdCells zs), .bool false])) (wr.setRow w.heap.size (hdCells zs)) :=
  ⟨_, _, rfl, below_setRow h.2.2.2.1 (Nat.le_refl _) _, (fun h => by cases h), (fun _ => hg), .inr rfl⟩
theorem inOpen_set {w wr : World} {B2 : Nat} {zs : List Nat} {T : List Bool} (h : InOpen w wr B2 zs T) (hB : w.heap.size + 1 < B2) (j : Nat) : InOpen w (wr.setCell ⟨B2, j, none⟩ (.bool true)) B2 zs (T.set j true) :=
  ⟨cells_setOther h.1 (by omega), cells_setOther h.2.1 (by omega), by rw [bools_set]; exact cells_setCell h.2.2.1, h.2.2.2.1.setCell (by show w.heap.size ≤ B2; omega) _, by rw [List.length_set]; exact h.2.2.2.2⟩

set_option maxHeartbeats 4000000 in
theorem open_full (ad : Addr) (cap : Nat) (zs : List Nat) (w : World) (hb : BytesAt w (some ad) zs) (hl : zs.length = 512) :
    Calls Try.prog 16 #[.slice (some ad) zs.length cap] w (Opened w zs) := by
  have hl1 : ((zs.length : Int) != 512) = false := by rw [hl]; rfl
  have HL := Lib.hid hl; clear hl
  have b6 := rd2 hb.1 14 (by have := HL.out; omega)
  have b7 := rd2 hb.1 16 (by have := HL.out; omega)
  have hblk : ad.block < w.heap.size := by
    obtain ⟨b, off, e, hc⟩ := hb.2.2 0 (by have := HL.out; omega)
    cases e
    exact World.block_lt_of_cell? w _ hc
  have HB0 := Lib.hid (bytes_below hb (below_alloc w (.cells head0 44)))
  have HB1 := Lib.hid (bytes_below HB0.out (below_alloc (w.alloc (.cells head0 44)) (.cells head0 44)))
  have HRD : Hid (Calls Try.prog 25 #[.pointer (some ⟨w.heap.size + 1, 0, none⟩), .slice (some ad) zs.length cap] ((w.alloc (.cells head0 44)).alloc (.cells head0 44)) fun e w' => e = .returned (.tuple #[]) ∧ Cells w' (w.heap.size + 1) 44 (hdCells zs) ∧ Wrote (w.heap.size + 1) ((w.alloc (.cells head0 44)).alloc (.cells head0 44)) w') := by
    have h := cells_new (w.alloc (.cells head0 44)) 44 head0
    rw [World.size_alloc] at h
    exact Lib.hid (read_any (w.heap.size + 1) _ _ _ _ _ _ _ _ (some ad) cap zs _ HB1.out (by rintro a' e; cases e; omega) (by have := HL.out; omega) h)
  have HR0 : Hid (Cells ((w.alloc (.cells head0 44)).alloc (.cells head0 44)) w.heap.size 44 head0) := Lib.hid (cells_alloc (cells_new w _ _) _)
  have HBW : Hid (Below w.heap.size w ((w.alloc (.cells head0 44)).alloc (.cells head0 44))) := Lib.hid (((Below.refl _ _).alloc (Nat.le_refl _) _).alloc (by simp) _)
  go_enter Try.func16, Try.ntmps16
  go_wp2_with fail
  refine HRD.out.mono ?_
  rintro e w1 ⟨rfl, hc1, hw1⟩
  have HC1 := Lib.hid hc1
  have HR1 := Lib.hid (cells_wrote HR0.out hw1 (by omega))
  have HW1 := Lib.hid (below_wrote HBW.out hw1 (by omega) HBW.out.size)
  have HBy := Lib.hid (bytes_below hb HW1.out)
  have hb0 := Lib.hid hb
  have HSz : Hid (w1.heap.size = w.heap.size + 2) := Lib.hid (by have := hw1.2; simpa using this)
  have c5 := cell_of_row w1 (w.heap.size + 1) 5 _ _ _ hc1
  have c6 := cell_of_row w1 (w.heap.size + 1) 6 _ _ _ hc1
  have c7 := cell_of_row w1 (w.heap.size + 1) 7 _ _ _ hc1
  simp only [hdCells, List.getElem?_toArray, List.getElem?_cons_zero, List.getElem?_cons_succ] at c5 c6 c7
  obtain ⟨z, hz⟩ : ∃ z, z = zs.getD 13 0 := ⟨_, rfl⟩
  obtain ⟨n, hn⟩ : ∃ n, n = rd zs 14 2 := ⟨_, rfl⟩
  obtain ⟨low, hlow⟩ : ∃ low, low = rd zs 16 2 := ⟨_, rfl⟩
  rw [← hz] at c5
  rw [← hn] at c6 b6
  rw [← hlow] at c7 b7
  have HSE : Hid (∀ k, Calls Try.prog 19 #[.pointer (some ⟨w.heap.size + 1, 0, none⟩)] (w1.drewN k) fun e w' => e = .returned (.int .i64 (26 + 4 * (n : Int))) ∧ w' = w1.drewN k) := Lib.hid (fun k => slotsEnd_any (w.heap.size + 1) n b6 (w1.drewN k) c6)
  have HZ := Lib.hid hz; have HN := Lib.hid hn; have HLOW := Lib.hid hlow
  have HS8 : Hid ((Try.prog.info? 44).map (·.size) = some (hdCells zs).size) := Lib.hid (size58 _ rfl)
  have HS0 : Hid (head0.size = (hdCells zs).size) := Lib.hid rfl
  have HON : Hid ((hdCells zs).all (·.oneCell') = true) := Lib.hid (by simp [hdCells, Value.oneCell'])
  clear hz hn hlow hc1 hw1 hb
  have hng : ¬ Good zs → ∀ k, Opened w zs (.returned (.tuple #[.agg (hdCells zs), .bool false])) ((w1.drewN k).setRow w.heap.size (hdCells zs)) := by
    intro hg k
    exact ⟨_, _, rfl, below_setRow (below_drewN HW1.out k) (Nat.le_refl _) _, (fun h => by cases h), (fun _ => hg), .inr rfl⟩
  have HNG := Lib.hid hng; clear hng
  by_cases h5 : z = 0
  · by_cases h6 : 26 + 4 * n ≤ low
    · by_cases h7 : low ≤ 512
      · have hd1 : ((z : Int) != 0) = false := by rw [h5]; rfl
        have hd2 : decide ((low : Int) < 26 + 4 * (n : Int)) = false := decide_eq_false (by omega)
        have hd3 : decide ((512 : Int) < (low : Int)) = false := decide_eq_false (by omega)
        have HH : Hid (z = 0 ∧ 26 + 4 * n ≤ low ∧ low ≤ 512) := Lib.hid ⟨h5, h6, h7⟩
        obtain ⟨i0, hi0, hiz⟩ := Option.map_eq_some_iff.1 info74
        go_wp2
        go_quiet ((go_at_call 19; exact Calls.quiet_of_same (HSE.out _)))
        have HVc : Cells ((w1.drewN nq).alloc (.cells Z512 58)) (w.heap.size + 1) 44 (hdCells zs) := cells_alloc (w := w1.drewN nq) HC1.out _
        have HV0 : Cells ((w1.drewN nq).alloc (.cells Z512 58)) w.heap.size 44 head0 := cells_alloc (w := w1.drewN nq) HR1.out _
        have HVt : Cells ((w1.drewN nq).alloc (.cells Z512 58)) w1.heap.size 58 Z512 := cells_new (w1.drewN nq) _ _
        have HVb : Below w.heap.size w ((w1.drewN nq).alloc (.cells Z512 58)) := (below_drewN HW1.out nq).alloc HW1.out.size _
        have HVy : BytesAt ((w1.drewN nq).alloc (.cells Z512 58)) (some ad) zs := bytes_below hb0.out HVb
        obtain ⟨B2, hB2⟩ : ∃ B2, B2 = w1.heap.size := ⟨_, rfl⟩
        have HB2 : Hid (w.heap.size + 1 < B2) := Lib.hid (by have := HSz.out; omega)
        go_wp2_with (refine wpList_alloc_row rfl 58 rfl i0 hi0 _ hiz ?_; generalize (w1.drewN nq).alloc (.cells Z512 58) = V at HVc HV0 HVt HVb HVy ⊢; have v6 := cell_of_row V (w.heap.size + 1) 6 _ _ _ HVc; simp only [hdCells, List.getElem?_toArray, List.getElem?_cons_zero, List.getElem?_cons_succ] at v6; rw [← HN.out] at v6)
        have HIN0 : Hid (InOpen w V B2 zs T512) := Lib.hid ⟨HVc, HV0, by rw [hB2]; exact HVt, HVb, List.length_replicate⟩
        have hlow7 := h7
        have hle6 := h6
        clear HVc HV0 HVt HVb HVy v6 c5 c6 c7 hd1 hd2 hd3 hi0 hiz HNG HSE
        rw [← hB2]
        clear hB2
        go_loopw [33] (fun i wr => ∃ (k : Nat) (T : List Bool), k ≤ n ∧ i = .int .i64 k ∧ Hid (InOpen w wr B2 zs T) ∧ Hid (marks zs low k = some T)) (fun i _ => (n - (intOf i)).toNat)
        case atStart => exact ⟨0, T512, by omega, rfl, HIN0, Lib.hid rfl⟩
        case round =>
          obtain ⟨k, T, hk, rfl, HIN, HMK⟩ := hrel
          by_cases hlt : k < n
          · have hby : BytesAt wr (some ad) zs := bytes_below hb0.out HIN.out.2.2.2.1
            have HCA := Lib.hid (cellAt_any (some ad) cap zs k wr hby (by have := HL.out; omega) (by have := HL.out; omega))
            have bx := rd2 hby.1 (26 + 4 * k) (by have := HL.out; omega)
            have by' := rd2 hby.1 (28 + 4 * k) (by have := HL.out; omega)
            have c7 := cell_of_row wr (w.heap.size + 1) 7 _ _ _ HIN.out.1
            simp only [hdCells, List.getElem?_toArray, List.getElem?_cons_zero, List.getElem?_cons_succ] at c7
            rw [← HLOW.out] at c7
            have HSTEP : Hid (marks zs low (k + 1) = if rd zs (26 + 4 * k) 2 < low ∨ 512 < rd zs (26 + 4 * k) 2 + rd zs (28 + 4 * k) 2 then none else markk T (rd zs (26 + 4 * k) 2) (rd zs (28 + 4 * k) 2)) := Lib.hid (by rw [marks, HMK.out])
            obtain ⟨x, hx⟩ : ∃ x, x = rd zs (26 + 4 * k) 2 := ⟨_, rfl⟩
            obtain ⟨y, hy⟩ : ∃ y, y = rd zs (28 + 4 * k) 2 := ⟨_, rfl⟩
            rw [← hx, ← hy] at HCA HSTEP
            rw [← hx] at bx
            rw [← hy] at by'
            clear hx hy hby
            have HBAD : Hid (marks zs low (k + 1) = none → ¬ Good zs) := Lib.hid (fun h hg => by
              have h1 := marks_none h n (by omega)
              have h2 := hg.2.2.2.2
              rw [← HN.out, ← HLOW.out, h1] at h2
              cases h2)
            by_cases hx1 : x < low
            · have HNG2 : Hid (¬ Good zs) := Lib.hid (HBAD.out (by rw [HSTEP.out, if_pos (.inl hx1)]))
              have hq1 : decide ((x : Int) < (low : Int)) = true := decide_eq_true (by omega)
              go_wp2_with (first | (go_at_call 21; refine HCA.out.mono ?_; rintro e w' ⟨rfl, rfl⟩) | (refine wpList_load_row rfl 44 (.tmp 4) rfl (w.heap.size + 1) rfl 44 _ (0, 0) _ HIN.out.1 Try.underlying44 rfl HS8.out ?_) | (refine wpList_store_row rfl 44 (.tmp 2) _ rfl w.heap.size _ rfl rfl 44 _ HIN.out.2.1 HS8.out HS0.out HON.out ?_))
              exact bodyPost_ret (v := .tuple #[.agg (hdCells zs), .bool false]) (opened_results _ _ _ _ _ rfl rfl (setRow_heap _ _ _ _ _ _ HIN.out.2.1) HS8.out) rfl (inOpen_ng HIN.out HNG2.out)
            · by_cases hx2 : 512 < x + y
              · have HNG2 : Hid (¬ Good zs) := Lib.hid (HBAD.out (by rw [HSTEP.out, if_pos (.inr hx2)]))
                have hq1 : decide ((x : Int) < (low : Int)) = false := decide_eq_false (by omega)
                have hq2 : decide ((512 : Int) < (x : Int) + (y : Int)) = true := decide_eq_true (by omega)
                go_wp2_with (first | (go_at_call 21; refine HCA.out.mono ?_; rintro e w' ⟨rfl, rfl⟩) | (refine wpList_load_row rfl 44 (.tmp 4) rfl (w.heap.size + 1) rfl 44 _ (0, 0) _ HIN.out.1 Try.underlying44 rfl HS8.out ?_) | (refine wpList_store_row rfl 44 (.tmp 2) _ rfl w.heap.size _ rfl rfl 44 _ HIN.out.2.1 HS8.out HS0.out HON.out ?_))
                exact bodyPost_ret (v := .tuple #[.agg (hdCells zs), .bool false]) (opened_results _ _ _ _ _ rfl rfl (setRow_heap _ _ _ _ _ _ HIN.out.2.1) HS8.out) rfl (inOpen_ng HIN.out HNG2.out)
              · have hq1 : decide ((x : Int) < (low : Int)) = false := decide_eq_false (by omega)
                have hq2 : decide ((512 : Int) < (x : Int) + (y : Int)) = false := decide_eq_false (by omega)
                have HST2 : Hid (marks zs low (k + 1) = markk T x y) := Lib.hid (by rw [HSTEP.out, if_neg (by omega)])
                go_wp2_with (go_at_call 21; refine HCA.out.mono ?_; rintro e w' ⟨rfl, rfl⟩)
                clear hq1 hq2 c7
                obtain ⟨wo, hwo⟩ : ∃ wo : World, wo = wr := ⟨_, rfl⟩
                rw [← hwo] at HIN
                have HINo : Hid (InOpen w wr B2 zs T) := by rw [← hwo]; exact HIN
                clear hwo HIN
                go_loopw [54] (fun i wi => ∃ (j : Nat) (U : List Bool), j ≤ y ∧ i = .int .i64 j ∧ Hid (InOpen w wi B2 zs U) ∧ Hid (markk T x j = some U)) (fun i _ => (y - (intOf i)).toNat)
                case atStart => exact ⟨0, T, by omega, rfl, HINo, Lib.hid rfl⟩
                case round =>
                  obtain ⟨j, U, hj, rfl, HIN2, HMU⟩ := hrel
                  by_cases hjy : j < y
                  · have hjx : x + j < 512 := by omega
                    have hcell := cell_of_row _ B2 (x + j) _ _ _ HIN2.out.2.2.1
                    rw [bools_get U (x + j) (by rw [HIN2.out.2.2.2.2]; exact hjx)] at hcell
                    have hfz := frozen_of_row _ B2 (x + j) _ _ HIN2.out.2.2.1
                    have HMS : Hid (markk T x (j + 1) = if U.getD (x + j) false then none else some (U.set (x + j) true)) := Lib.hid (by rw [markk, HMU.out])
                    cases hu : U.getD (x + j) false with
                    | true =>
                      rw [hu] at hcell HMS
                      have HNG2 : Hid (¬ Good zs) := Lib.hid (HBAD.out (by rw [HST2.out]; exact markk_none (j := j + 1) (by rw [HMS.out]; rfl) y (by omega)))
                      clear hu
                      go_wp2_with (first | (refine wpList_load_row rfl 44 (.tmp 4) rfl (w.heap.size + 1) rfl 44 _ (0, 0) _ HIN2.out.1 Try.underlying44 rfl HS8.out ?_) | (refine wpList_store_row rfl 44 (.tmp 2) _ rfl w.heap.size _ rfl rfl 44 _ HIN2.out.2.1 HS8.out HS0.out HON.out ?_))
                      exact bodyPost_ret (v := .tuple #[.agg (hdCells zs), .bool false]) (opened_results _ _ _ _ _ rfl rfl (setRow_heap _ _ _ _ _ _ HIN2.out.2.1) HS8.out) rfl (inOpen_ng HIN2.out HNG2.out)
                    | false =>
                      rw [hu] at hcell HMS
                      have HNX : Hid (markk T x (j + 1) = some (U.set (x + j) true)) := Lib.hid (by rw [HMS.out]; rfl)
                      clear hu HMS
                      go_wp2
                      go_roundw
                      case rel => exact ⟨j + 1, U.set (x + j) true, by omega, by go_num, Lib.hid (inOpen_set HIN2.out HB2.out _), HNX⟩
                      case measure => simp [intOf]; omega
                  · obtain rfl : j = y := by omega
                    have HNX : Hid (marks zs low (k + 1) = some U) := Lib.hid (by rw [HST2.out, HMU.out])
                    go_wp2
                    go_roundw
                    case rel => exact ⟨k + 1, U, by omega, by go_num, HIN2, HNX⟩
                    case measure => simp [intOf]; omega
          · obtain rfl : k = n := by omega
            have HGood : Hid (Good zs) := Lib.hid ⟨HL.out, by rw [← HZ.out]; exact h5, by rw [← HN.out, ← HLOW.out]; exact hle6, by rw [← HLOW.out]; exact hlow7, by rw [← HLOW.out, ← HN.out, HMK.out]; rfl⟩
            go_wp2_with (first | (refine wpList_load_row rfl 44 (.tmp 4) rfl (w.heap.size + 1) rfl 44 _ (0, 0) _ HIN.out.1 Try.underlying44 rfl HS8.out ?_) | (refine wpList_store_row rfl 44 (.tmp 2) _ rfl w.heap.size _ rfl rfl 44 _ HIN.out.2.1 HS8.out HS0.out HON.out ?_))
            exact bodyPost_ret (v := .tuple #[.agg (hdCells zs), .bool true]) (opened_results _ _ _ _ _ rfl rfl (setRow_heap _ _ _ _ _ _ HIN.out.2.1) HS8.out) rfl ⟨_, _, rfl, below_setRow HIN.out.2.2.2.1 (Nat.le_refl _) _, (fun _ => ⟨HGood.out, rfl⟩), (fun h => by cases h), .inr rfl⟩
      · have hd1 : ((z : Int) != 0) = false := by rw [h5]; rfl
        have hd2 : decide ((low : Int) < 26 + 4 * (n : Int)) = false := decide_eq_false (by omega)
        have hd3 : decide ((512 : Int) < (low : Int)) = true := decide_eq_true (by omega)
        have HG : Hid (¬ Good zs) := Lib.hid (fun h => h7 (by have := h.2.2.2.1; rwa [← HLOW.out] at this))
        clear h5 h6 h7
        go_wp2
        go_quiet ((go_at_call 19; exact Calls.quiet_of_same (HSE.out _)))
        go_wp2_with (first | (refine wpList_load_row rfl 44 (.tmp 4) rfl (w.heap.size + 1) rfl 44 _ (0, 0) _ HC1.out Try.underlying44 rfl HS8.out ?_) | (refine wpList_store_row rfl 44 (.tmp 2) _ rfl w.heap.size _ rfl rfl 44 _ HR1.out HS8.out HS0.out HON.out ?_))
        exact bodyPost_ret (v := .tuple #[.agg (hdCells zs), .bool false]) (opened_results _ _ _ _ _ rfl rfl (setRow_heap _ _ _ _ _ _ HR1.out) HS8.out) rfl (HNG.out HG.out nq)
    · have hd1 : ((z : Int) != 0) = false := by rw [h5]; rfl
      have hd2 : decide ((low : Int) < 26 + 4 * (n : Int)) = true := decide_eq_true (by omega)
      have HG : Hid (¬ Good zs) := Lib.hid (fun h => h6 (by have := h.2.2.1; rwa [← HN.out, ← HLOW.out] at this))
      clear h5 h6
      go_wp2
      go_quiet ((go_at_call 19; exact Calls.quiet_of_same (HSE.out _)))
      go_wp2_with (first | (refine wpList_load_row rfl 44 (.tmp 4) rfl (w.heap.size + 1) rfl 44 _ (0, 0) _ HC1.out Try.underlying44 rfl HS8.out ?_) | (refine wpList_store_row rfl 44 (.tmp 2) _ rfl w.heap.size _ rfl rfl 44 _ HR1.out HS8.out HS0.out HON.out ?_))
      exact bodyPost_ret (v := .tuple #[.agg (hdCells zs), .bool false]) (opened_results _ _ _ _ _ rfl rfl (setRow_heap _ _ _ _ _ _ HR1.out) HS8.out) rfl (HNG.out HG.out nq)
  · have hd1 : ((z : Int) != 0) = true := by rw [bne_iff_ne]; omega
    have HG : Hid (¬ Good zs) := Lib.hid (fun h => h5 (by have := h.2.1; rwa [← HZ.out] at this))
    clear h5
    go_wp2
    go_quiet ((go_at_call 19; exact Calls.quiet_of_same (HSE.out _)))
    go_wp2_with (first | (refine wpList_load_row rfl 44 (.tmp 4) rfl (w.heap.size + 1) rfl 44 _ (0, 0) _ HC1.out Try.underlying44 rfl HS8.out ?_) | (refine wpList_store_row rfl 44 (.tmp 2) _ rfl w.heap.size _ rfl rfl 44 _ HR1.out HS8.out HS0.out HON.out ?_))
    exact bodyPost_ret (v := .tuple #[.agg (hdCells zs), .bool false]) (opened_results _ _ _ _ _ rfl rfl (setRow_heap _ _ _ _ _ _ HR1.out) HS8.out) rfl (HNG.out HG.out nq)
end Go.Proofs.Ytaadeoobmclpcaa

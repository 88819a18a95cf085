/- What a table tells: what one waits for; who waits for a name. -/
import Derived.Test.YthanjncpgcmnaaaLckFree
namespace Go.Proofs.Ythanjncpgcmnaaa
open Go.ChangeShapes Go.WideShapes Go.ChangeAt Go.RowKit

/-- A row of numbers that is being made. -/
structure Qut (W wr : World) (bo : Option Nat) (v : Value) (l : List Nat) : Prop where
  slc : Slc wr bo 1 v l.length (u64s l)
  below : Below W.heap.size W wr
  bo : ∀ b, bo = some b → W.heap.size ≤ b
theorem qut_below {W wr w2 : World} {bo : Option Nat} {v : Value} {l : List Nat} (h : Qut W wr bo v l) (hb : Below wr.heap.size wr w2) : Qut W w2 bo v l :=
  ⟨slc_below h.slc hb, h.below.trans (hb.mono h.below.size), h.bo⟩
theorem qut_step {W w3 w5 : World} {bo bo' : Option Nat} {v v' : Value} {l : List Nat} {z n : Nat} (h : Qut W w3 bo v l) (hn : n = l.length + 1) (h1 : Slc w5 bo' 1 v' n (u64s l ++ u64s [z])) (h2 : Turned (fun k => bo = some k) w3 w5) (h3 : bo' = bo ∨ bo' = some w3.heap.size) : Qut W w5 bo' v' (l ++ [z]) := by
  subst hn
  refine ⟨?_, Turned.to_below h.below h2 h.bo h.below.size, fun b e => ?_⟩
  · rw [List.length_append, show u64s (l ++ [z]) = u64s l ++ u64s [z] from List.map_append]; exact h1
  · rcases h3 with h3 | h3
    · exact h.bo b (h3 ▸ e)
    · rw [h3] at e; cases e; exact h.below.size
theorem results_cell {fn : Func} {a b : Tmp} {ty : TypeId} (h : fn.results = #[.cell a ty, .tmp b]) (tmps : Array Value) (P : Program) (w : World) {ad : Addr} {v : Value} (ha : tmps.getD a undef = .pointer (some ad)) (hl : (loadVar ty ad).run P w = .ok v w) :
    (results fn tmps).run P w = .ok (.tuple #[v, tmps.getD b undef]) w := by
  rw [Array.getD_eq_getD_getElem?] at ha
  simp [results, h, ha, asAddr, hl]
theorem load_grant (w : World) (s m : Value) : (loadVar 35 ⟨w.heap.size, 0, none⟩).run Try.prog (w.alloc (.cells #[s, m] 35)) = .ok (.agg #[s, m]) (w.alloc (.cells #[s, m] 35)) := by
  refine run_loadVar_row _ _ _ _ #[s, m] _ _ (heap_alloc_new w _) Try.underlying35 ?_ ?_
  all_goals kernel_rfl
def WaitsTells (w : World) (p : ByteArray × Nat) (e : Ending) (w' : World) : Prop := Below w.heap.size w w' ∧ e = .returned (if p.2 = 0 then .tuple #[.agg #[.string ⟨#[]⟩, .int .i64 0], .bool false] else .tuple #[.agg #[.string p.1, .int .i64 (p.2 : Int)], .bool true])
set_option maxHeartbeats 1000000 in
/-- What one waits for. -/
theorem waits_any {w : World} {g : Nat} {S : St} {x : Gh} {N : Nat} (H : Tab w g S x N) {o : Nat} (ho : o < top) :
    Calls Try.prog 26 #[.pointer (some ⟨g, 0, none⟩), .int .u64 (o : Int)] w (WaitsTells w (S.waits o)) := by
  have hb1 := below_alloc w (.cells #[.string ⟨#[]⟩, .int .i64 0] 35)
  have H1 := H.below hb1
  obtain ⟨c0, c1⟩ := tab_cells H1
  have HW := waiting_any H1 ho
  have hl := look_ow H1.owners ho
  generalize hR : WaitsTells w (S.waits o) = R
  have HR := Lib.hid hR
  by_cases h0 : (S.waits o).2 = 0
  · rw [decide_eq_false (fun h => h h0)] at HW
    have HW' := Lib.hid HW
    have HX : Hid (WaitsTells w (S.waits o) (.returned (.tuple #[.agg #[.string ⟨#[]⟩, .int .i64 0], .bool false])) (w.alloc (.cells #[.string ⟨#[]⟩, .int .i64 0] 35))) := Lib.hid ⟨hb1, by rw [if_pos h0]⟩
    clear hR H H1 HW hl c0 ho h0
    go_enter Try.func26, Try.ntmps26
    go_wp2_with (go_at_call 28; refine HW'.out.mono ?_; rintro e w' ⟨rfl, rfl⟩)
    refine bodyPost_ret (results_cell rfl _ _ _ rfl (load_grant _ _ _)) rfl ?_
    rw [← HR.out]
    exact HX.out
  · rw [decide_eq_true h0] at HW
    have HW' := Lib.hid HW
    have HX : Hid (∀ W, Below w.heap.size w W → WaitsTells w (S.waits o) (.returned (.tuple #[.agg #[.string (S.waits o).1, .int .i64 ((S.waits o).2 : Int)], .bool true])) W) := Lib.hid (fun W hW => ⟨hW, by rw [if_neg h0]⟩)
    clear hR
    cases hw : x.ow o with
    | none => exact absurd (by rw [(H.owners.none o hw).2]) h0
    | some k =>
      obtain ⟨k0, k1, k2, -⟩ := ow_cells (H1.owners.each o k hw)
      rw [hw] at hl
      simp only [Option.map_some, ptr] at hl
      clear H H1 HW c0 ho h0 hw k0
      go_enter Try.func26, Try.ntmps26
      go_wp2_with (go_at_call 28; refine HW'.out.mono ?_; rintro e w' ⟨rfl, rfl⟩)
      refine bodyPost_ret (results_cell rfl _ _ _ rfl (load_grant _ _ _)) rfl ?_
      rw [← HR.out]
      exact HX.out _ (below_alloc _ _)
/-- Who waits for a name. -/
def QueueTells (W : World) (l : List Nat) (e : Ending) (w' : World) : Prop := ∃ v bo, e = .returned v ∧ Qut W w' bo v l
set_option maxRecDepth 100000 in
set_option maxHeartbeats 2000000 in
theorem queue_any {w : World} {g : Nat} {S : St} {x : Gh} {N : Nat} (H : Tab w g S x N) (hN : N < 8796093022208) {nm : ByteArray} (hn : nm.size ≤ maxLen) :
    Calls Try.prog 15 #[.pointer (some ⟨g, 0, none⟩), .string nm] w (QueueTells w ((S.queue nm).map (·.1))) := by
  obtain ⟨c0, c1⟩ := tab_cells H
  have hl := look_lk H.locks hn
  generalize hR : QueueTells w ((S.queue nm).map (·.1)) = R
  have HR := Lib.hid hR
  cases hk : x.lk nm with
  | none =>
    have HX : Hid (QueueTells w ((S.queue nm).map (·.1)) (.returned (.slice none 0 0)) w) := Lib.hid ⟨_, none, rfl, by rw [(H.locks.none nm hk).2]; exact ⟨slc_nil _ _, Below.refl _ _, fun b e => by cases e⟩⟩
    rw [hk] at hl
    simp only [Option.map_none, ptr] at hl
    clear H hN hn hk hR c1
    go_enter Try.func15, Try.ntmps15
    go_wp2
    rw [← HR.out]
    exact HX.out
  | some k =>
    have h := H.locks.each nm k hk
    obtain ⟨k0, k1⟩ := lk_cells h
    rw [hk] at hl
    simp only [Option.map_some, ptr] at hl
    have hfw := h.few
    have hq := h.slc
    generalize hqq : S.queue nm = q at hq hfw HR
    obtain ⟨n, hnq⟩ : ∃ n, n = q.length := ⟨_, rfl⟩
    rw [← hnq] at hq hfw
    obtain ⟨ao, cap, hv, p1, p2, -⟩ := slc_form hq
    rw [hv] at k1
    unfold maxLen at p2
    obtain ⟨iu, RU⟩ := rowU64
    obtain ⟨w2, hmk, ho2, hg2⟩ := run_make_own (P := Try.prog) w w.heap.size 29 27 iu (.int .u64 0) 1 RU.ht RU.hi RU.hz RU.hsz .i64 .i64 n (by rw [RU.hby]; omega) (by unfold maxLen; omega) (Nat.le_refl _)
    obtain ⟨bo0, hs0, hbo0⟩ := slc_of_own ho2 (fun u hu => by cases hu)
    have hb2 : Below w.heap.size w w2 := ⟨hg2.os, hg2.tape, hg2.output, hg2.size, fun b hb => hg2.block b hb (by simp)⟩
    rw [hv] at hq
    have HQ := Lib.hid hq
    have HQ2 := Lib.hid (slc_below hq hb2)
    have HNQ := Lib.hid hnq
    have HB2 := Lib.hid hb2
    have HRU := Lib.hid RU
    have HST : Hid (Qut w w2 bo0 (.slice (some ⟨w.heap.size, 0, none⟩) 0 n) []) := Lib.hid ⟨hs0, hb2, fun b e => (hbo0 b e).1⟩
    have hnn : n < 8796093022208 := by omega
    have e1 : w2.cell? ⟨k.b, 1, none⟩ = some (.slice ao n cap) := (hb2.cell (World.block_lt_of_cell? w _ k1)).trans k1
    clear H hN hn hk h hq hfw hqq hnq hv p1 RU ho2 hg2 hs0 hbo0 hb2 c1 k0 hR
    go_enter Try.func15, Try.ntmps15
    go_wp2
    have hkb : k.b < w2.heap.size := World.block_lt_of_cell? w2 _ e1
    clear hl c0 hmk k1
    go_loopw [6, 37] (fun v i wr => ∃ (j : Nat) (bo : Option Nat), j ≤ n ∧ i = .int .i64 (j : Int) ∧ Hid (Qut w wr bo v ((q.take j).map (·.1))) ∧ Hid (Slc wr k.qb 2 (.slice ao n cap) n (qcells q))) (fun _ i _ => n - (intOf i).toNat)
    case atStart => exact ⟨0, bo0, Nat.zero_le _, rfl, HST, HQ2⟩
    case round =>
      obtain ⟨j, bo, hj, rfl, ho, hs⟩ := hrel
      by_cases hlt : j < n
      · have hjq : j < q.length := by rw [← HNQ.out]; exact hlt
        have hp : q[j]? = some q[j] := List.getElem?_eq_getElem hjq
        have htk : (q.take (j + 1)).map (·.1) = (q.take j).map (·.1) ++ [q[j].1] := by rw [List.take_add_one, hp, List.map_append]; rfl
        have hlen : ((q.take j).map (·.1)).length = j := by rw [List.length_map, List.length_take]; omega
        obtain ⟨_, _, ⟨_, _, hz0⟩ | ⟨b, off, cap', _, e, _, _, _, hx, _⟩⟩ := id hs.out
        · omega
        cases e
        obtain ⟨x0, x1⟩ := qcell_at q j q[j] hp
        have f0 : wr.cell? ⟨b, off + j * 2, none⟩ = _ := hx _ _ x0
        have f1 : wr.cell? ⟨b, off + j * 2 + 1, none⟩ = _ := hx _ _ x1
        generalize q[j] = pp at f0 f1 htk
        obtain ⟨po, pm⟩ := pp
        simp only at f0 f1 htk
        have HTK := Lib.hid htk
        have HO1 := Lib.hid (qut_below ho.out ((below_alloc wr (.cells #[.int .u64 (po : Int), .int .i64 (pm : Int)] 74)).trans ((below_alloc _ (.cells #[.int .u64 (po : Int)] 27)).mono (by rw [size_alloc]; omega))))
        have HS1 := Lib.hid (slc_below hs.out ((below_alloc wr (.cells #[.int .u64 (po : Int), .int .i64 (pm : Int)] 74)).trans ((below_alloc _ (.cells #[.int .u64 (po : Int)] 27)).mono (by rw [size_alloc]; omega))))
        have HLN := Lib.hid hlen
        have hso := HO1.out.slc
        rw [hlen] at hso
        have HSO := Lib.hid hso
        have HQB : Hid (∀ b, k.qb = some b → bo ≠ some b) := Lib.hid (fun b e e' => by have h1 := slc_lt HQ.out b e; have h2 := ho.out.bo b e'; omega)
        have hsrc := (u64_src (w := (wr.alloc (.cells #[.int .u64 (po : Int), .int .i64 (pm : Int)] 74)).alloc (.cells #[.int .u64 (po : Int)] 27)) ((cell_of_row _ _ 0 _ _ _ (cells_new (wr.alloc (.cells #[.int .u64 (po : Int), .int .i64 (pm : Int)] 74)) 27 #[.int .u64 (po : Int)])).trans rfl))
        rw [size_alloc] at hsrc
        have HSRC := Lib.hid hsrc
        clear hsrc hp x0 x1 hx htk hlen hjq hso
        go_wp2_with (refine wpList_slc HRU.out rfl (.tmp 41) (.tmp 44) 29 rfl rfl rfl HSO.out HSRC.out rfl (by unfold maxLen; omega) (by omega) ?_; intro ao3 cap3 bo3 w3 g1 g2 g3; have HO3 := Lib.hid (qut_step HO1.out (by rw [HLN.out]) g1 g2 g3); have HS3 := Lib.hid (slc_turned HS1.out g2 (fun b e e' => HQB.out b e e')); clear g1 g2 g3)
        go_roundw
        case rel => exact ⟨j + 1, bo3, by omega, by go_num, by rw [HTK.out]; exact HO3, HS3⟩
        case measure => simp [intOf]; omega
      · have hjn : n = j := by omega
        subst hjn
        have HX : Hid (QueueTells w (q.map (·.1)) (.returned u6) wr) := Lib.hid ⟨_, bo, rfl, by have := ho.out; rw [List.take_of_length_le (by rw [HNQ.out]; exact Nat.le_refl _)] at this; exact this⟩
        go_wp2
        rw [← HR.out]
        exact HX.out
end Go.Proofs.Ythanjncpgcmnaaa

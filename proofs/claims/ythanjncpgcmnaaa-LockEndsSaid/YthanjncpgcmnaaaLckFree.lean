/- All that one holds is given up: the walk. -/
import Derived.Test.YthanjncpgcmnaaaLckFreeB
namespace Go.Proofs.Ythanjncpgcmnaaa
open Go.ChangeShapes Go.WideShapes Go.ChangeAt Go.RowKit

theorem fra_start {w W2 W6 : World} {g : Nat} {S : St} {x : Gh} {N : Nat} (H : Tab w g S x N) {ob : Obj} {id : Nat} {v : Value} {ss : List (List UInt8)} {n : Nat} (hb2 : Below w.heap.size w W2) (hc : W2.cell? ⟨w.heap.size, 0, none⟩ = some (.int .u64 (id : Int)))
    (hb : Below (W2.alloc ob).heap.size (W2.alloc ob) W6) (hrow : W6.ownsRow (W2.alloc ob).heap.size 9 1 v ss.length ((ss.mergeSort fun x y => decide (x ≤ y)).map encStr)) (h1 : ss.Nodup) (h2 : ∀ x ∈ ss, x.length ≤ maxLen) (h3 : ∀ x, x ∈ ss ↔ S.held id (nmOf x) ≠ 0) (h4 : ss.length ≤ n) :
    ∃ nb ns, Names (S.held id) ns ∧ ns.length ≤ n ∧ Fra w W6 g x N id S x v nb ns w.heap.size := by
  have hsz := size_alloc W2 ob
  have hlt := World.block_lt_of_cell? W2 _ hc
  have hlt : w.heap.size < W2.heap.size := hlt
  have hb6 : Below w.heap.size w W6 := (hb2.trans ((below_alloc W2 ob).mono hb2.size)).trans (hb.mono (by omega))
  obtain ⟨nb, hs, hnb⟩ := slc_of_own hrow (fun u hu => by obtain ⟨z, _, rfl⟩ := List.mem_map.1 hu; rfl)
  have hout : ∀ b, w.heap.size ≤ b → x.who b = .out := fun b hb => Classical.byContradiction fun h => by have := H.lt b h; omega
  have hl : ((ss.mergeSort fun x y => decide (x ≤ y)).map nmOf).length = ss.length := by rw [List.length_map, List.length_mergeSort]
  refine ⟨nb, (ss.mergeSort fun x y => decide (x ≤ y)).map nmOf, names_sort (List.Perm.refl _) h1 h2 h3, by omega, H.below hb6, Steps.below _ hb6, ?_, fun b e => ?_, ?_, hout _ (Nat.le_refl _)⟩
  · rw [← str_map, hl]; exact hs
  · have := (hnb b e).1
    exact ⟨by omega, hout b (by omega)⟩
  · rw [World.cell?_of_block (a := ⟨w.heap.size, 0, none⟩) (hb.block _ (by show w.heap.size < _; omega)), World.cell?_of_block (a := ⟨w.heap.size, 0, none⟩) ((below_alloc W2 ob).block _ hlt)]
    exact hc
theorem part_none {S : St} {id : Nat} : part S id [] = { S with held := upd S.held id (fun _ => 0), waits := upd S.waits id (⟨#[]⟩, 0) } := by
  have : (part S id []).hold = S.hold := by
    funext n o
    exact if_neg (fun h => by cases h.2)
  show St.mk (part S id []).hold _ _ _ = _
  rw [this]
theorem fra_queue {W wr w9 : World} {g : Nat} {x : Gh} {N : Nat} {id : Nat} {S1 : St} {x' : Gh} {v : Value} {nb : Option Nat} {ns : List ByteArray} {c : Nat} (hf : Fra W wr g x N id S1 x' v nb ns c) {nm : ByteArray} {k : LkG} (hk : x'.lk nm = some k) (hb : Below wr.heap.size wr w9) :
    (∃ u, w9.cell? ⟨k.b, 1, none⟩ = some u) ∧ w9.frozen? ⟨k.b, 1, none⟩ = false ∧ ∃ x2, Fra W (w9.setCell ⟨k.b, 1, none⟩ k.qv) g x N id S1 x2 v nb ns c ∧ ∀ n, (x'.lk n).isSome = true → (x2.lk n).isSome = true := by
  have hf9 := fra_below hf hb
  have h9 := hf9.tab.locks.each nm k hk
  obtain ⟨x2, t2, s2, -, k', l2, -, -⟩ := set_queueN hf9.tab (Nat.le_refl N) hk (Turned.refl _ w9) h9.slc (.inl rfl) h9.qs h9.few
  rw [upd_self] at t2
  refine ⟨⟨_, (lk_cells h9).2⟩, frozen_of_row _ _ _ _ _ h9.cells, x2, fra_step hf9 t2 s2, fun n hn => ?_⟩
  rw [l2]
  by_cases e : n = nm
  · rw [e, upd_same]; rfl
  · rw [upd_other _ _ e]; exact hn
theorem fra_lks {w : World} {g : Nat} {S : St} {x : Gh} {N : Nat} (H : Tab w g S x N) {id : Nat} {ns : List ByteArray} (hns : Names (S.held id) ns) (hc : ∀ n, S.hold n id = S.held id n) : ∀ nm ∈ ns, (x.lk nm).isSome = true := fun nm hm => by
  have h1 := (hns.mem nm).1 hm
  cases e : x.lk nm with
  | none =>
    have := (H.locks.none nm e).1 id
    rw [hc] at this
    exact absurd this h1
  | some k => rfl
theorem not_waits {S : St} (hf : Wf S) {id : Nat} (hwt : (S.waits id).2 = 0) {nm : ByteArray} (hq : ∀ p ∈ S.queue nm, 1 ≤ p.2) : ∀ p ∈ S.queue nm, p.1 ≠ id := fun p hp e => by
  obtain ⟨o, m⟩ := p
  have h1 := hf.waits nm o m hp
  have h2 := hq _ hp
  subst e
  rw [h1] at hwt
  simp only at hwt h2
  omega
theorem slc_at {w : World} {bo : Option Nat} {n : Nat} {ao : Option Addr} {cap : Nat} {xs : List Value} (h : Slc w bo 1 (.slice ao n cap) n xs) {j : Nat} {u : Value} (hu : xs[j]? = some u) (hj : j < n) : ∃ b off, ao = some ⟨b, off, none⟩ ∧ w.cell? ⟨b, off + j, none⟩ = some u := by
  obtain ⟨_, _, ⟨_, _, h0⟩ | ⟨b, off, cap', _, e, _, _, _, hx, _⟩⟩ := h
  · omega
  cases e
  exact ⟨b, off, rfl, hx j u hu⟩
/-- On the way through the names that are served. -/
structure Fro (W wr : World) (g : Nat) (x : Gh) (N : Nat) (id : Nat) (S S1 : St) (x1 : Gh) (v : Value) (nb : Option Nat) (ns : List ByteArray) (j : Nat) (outs : List Nat) (vo : Value) (bo : Option Nat) : Prop where
  fra : Fra W wr g x N id S1 x1 v nb ns W.heap.size
  slc : Slc wr bo 1 vo outs.length (u64s outs)
  bo : ∀ b, bo = some b → W.heap.size ≤ b ∧ x1.who b = .out ∧ nb ≠ some b ∧ b ≠ W.heap.size
  all : All (ns.take j) (freed S id) S1 outs
  wf : Wf S1
  lks : ∀ nm ∈ ns.drop j, (x1.lk nm).isSome = true
theorem fro_step {W wr w2 w3 : World} {g : Nat} {x : Gh} {N : Nat} {id : Nat} {S S1 S2 : St} {x1 x2 : Gh} {v : Value} {nb : Option Nat} {ns : List ByteArray} {j : Nat} {outs more : List Nat} {vo v3 : Value} {bo bo3 : Option Nat} (h : Fro W wr g x N id S S1 x1 v nb ns j outs vo bo) {nm : ByteArray} (hget : ns[j]? = some nm) (hnd : ns.Pairwise fun a b => a.data.toList ≤ b.data.toList ∧ a ≠ b)
    (ht : Tab w2 g S2 x2 N) (hp : Path nm S1 S2 more) (hd : Done S2 nm) (hw : Wf S2) (hs : Steps wr w2 x1 x2) (hl : ∀ n, n ≠ nm → (x1.lk n).isSome = true → (x2.lk n).isSome = true)
    (h1 : Slc w3 bo3 1 v3 (outs.length + more.length) (u64s outs ++ u64s more)) (h2 : Turned (fun k => bo = some k) w2 w3) (h3 : bo3 = bo ∨ bo3 = some w2.heap.size) : Fro W w3 g x N id S S2 x2 v nb ns (j + 1) (outs ++ more) v3 bo3 := by
  have htk : ns.take (j + 1) = ns.take j ++ [nm] := by rw [List.take_add_one, hget]; rfl
  have hdr : ns.drop j = nm :: ns.drop (j + 1) := by
    obtain ⟨hj, e⟩ := List.getElem?_eq_some_iff.1 hget
    rw [← e]; exact List.drop_eq_getElem_cons hj
  have hf2 := fra_step h.fra ht hs
  have hbo2 : ∀ b, bo = some b → W.heap.size ≤ b ∧ x2.who b = .out ∧ nb ≠ some b ∧ b ≠ W.heap.size := fun b e => by
    obtain ⟨a1, a2, a3, a4⟩ := h.bo b e
    exact ⟨a1, by rw [hs.ext b (slc_lt h.slc b e)]; exact a2, a3, a4⟩
  have hcl := World.block_lt_of_cell? w2 _ hf2.idc
  have hcl : W.heap.size < w2.heap.size := hcl
  refine ⟨fra_out hf2 h2 hbo2, ?_, fun b e => ?_, ?_, hw, fun n hn => ?_⟩
  · rw [List.length_append, show u64s (outs ++ more) = u64s outs ++ u64s more from List.map_append]; exact h1
  · rcases h3 with h3 | h3
    · exact hbo2 b (h3 ▸ e)
    · rw [h3] at e; cases e
      refine ⟨by omega, Classical.byContradiction fun h' => ?_, fun e' => ?_, by omega⟩
      · have := ht.lt _ h'; omega
      · have := slc_lt hf2.slc _ e'; omega
  · rw [htk]; exact .snoc h.all hp hd
  · have hnd2 : (nm :: ns.drop (j + 1)).Pairwise fun a b => a.data.toList ≤ b.data.toList ∧ a ≠ b := by rw [← hdr]; exact hnd.sublist (List.drop_sublist _ _)
    refine hl n (fun e => ?_) (h.lks n (by rw [hdr]; exact List.mem_cons_of_mem _ hn))
    subst e
    exact ((List.pairwise_cons.1 hnd2).1 n hn).2 rfl
theorem queue_modes {w : World} {g : Nat} {S : St} {x : Gh} {N : Nat} (H : Tab w g S x N) : ∀ n o m, (o, m) ∈ S.queue n → 1 ≤ m := fun n o m hm => by
  cases e : x.lk n with
  | none => rw [(H.locks.none n e).2] at hm; cases hm
  | some k => exact ((H.locks.each n k e).qs _ hm).2.1
set_option maxRecDepth 100000 in
set_option maxHeartbeats 4000000 in
theorem free_any {w : World} {g : Nat} {S : St} {x : Gh} {N : Nat} (H : Tab w g S x N) (hN : N < 8796093022208) (hf : Wf S) {id : Nat} (ho : id < top) {kk : OwG} (hk : x.ow id = some kk) (hcons : ∀ n, S.hold n id = S.held id n) (hwt : (S.waits id).2 = 0)
    (hB : ∀ ns S' outs, All ns (freed S id) S' outs → outs.length ≤ 8796093022208) :
    Calls Try.prog 16 #[.pointer (some ⟨g, 0, none⟩), .int .u64 (id : Int)] w (Frees w g S x N id) := by
  have hb1 := below_alloc w (.cells #[.int .u64 (id : Int)] 27)
  have H1 := H.below hb1
  obtain ⟨c0, c1⟩ := tab_cells H1
  have ci : (w.alloc (.cells #[.int .u64 (id : Int)] 27)).cell? ⟨w.heap.size, 0, none⟩ = some (.int .u64 (id : Int)) := (cell_of_row _ _ 0 _ _ _ (cells_new w 27 #[.int .u64 (id : Int)])).trans rfl
  have hlk : ∀ n, (Instr.lookup 58 (.map (some x.om)) (.int .u64 (id : Int)) false).run Try.prog ((w.alloc (.cells #[.int .u64 (id : Int)] 27)).drewN n) = .ok (.pointer (some ⟨kk.b, 0, none⟩)) ((w.alloc (.cells #[.int .u64 (id : Int)] 27)).drewN n) := fun n => by
    have := look_ow (H1.below (below_drew1 _ n)).owners ho
    rw [hk] at this
    exact this
  have hgs : g < w.heap.size := cells_lt H.cells
  have HH := Lib.hid H; have HN := Lib.hid hN; have HF := Lib.hid hf; have HO := Lib.hid ho; have HK := Lib.hid hk; have HC := Lib.hid hcons; have HWT := Lib.hid hwt; have HB := Lib.hid hB; have H1' := Lib.hid H1
  generalize hR : Frees w g S x N id = R
  have HR := Lib.hid hR
  clear hb1 H1 H hN hf ho hk hcons hwt hB hR
  go_enter Try.func16, Try.ntmps16
  go_wp2
  go_quiet (fail)
  have hw1 := HH.out.below (below_drewN (below_alloc w (.cells #[.int .u64 (id : Int)] 27)) nq)
  have hbw1 : Below w.heap.size w ((w.alloc (.cells #[.int .u64 (id : Int)] 27)).drewN nq) := below_drewN (below_alloc w _) nq
  have ci1 : ((w.alloc (.cells #[.int .u64 (id : Int)] 27)).drewN nq).cell? ⟨w.heap.size, 0, none⟩ = some (.int .u64 (id : Int)) := ci
  have hs1 : w.heap.size < ((w.alloc (.cells #[.int .u64 (id : Int)] 27)).drewN nq).heap.size := World.block_lt_of_cell? _ _ ci1
  clear c0 c1 ci hlk
  generalize (w.alloc (.cells #[.int .u64 (id : Int)] 27)).drewN nq = W1 at hw1 hbw1 ci1 hs1 ⊢
  obtain ⟨c0, c1⟩ := tab_cells hw1
  have hlk : ∀ n, (Instr.lookup 58 (.map (some x.om)) (.int .u64 (id : Int)) false).run Try.prog (W1.drewN n) = .ok (.pointer (some ⟨kk.b, 0, none⟩)) (W1.drewN n) := fun n => by
    have := look_ow (hw1.below (below_drew1 W1 n)).owners HO.out
    rw [HK.out] at this
    exact this
  have HW1 := Lib.hid hw1; have HBW1 := Lib.hid hbw1; have HS1 := Lib.hid hs1
  clear hw1 hbw1 c0 hs1
  go_wp2
  go_quiet (fail)
  have hw2 := HW1.out.below (below_drew1 W1 nq)
  have hbw2 : Below w.heap.size w (W1.drewN nq) := below_drewN HBW1.out nq
  have ci2 : (W1.drewN nq).cell? ⟨w.heap.size, 0, none⟩ = some (.int .u64 (id : Int)) := ci1
  clear c1 ci1 hlk
  generalize W1.drewN nq = W2 at hw2 hbw2 ci2 ⊢
  have h := hw2.owners.each id kk HK.out
  obtain ⟨k0, -, k2, -⟩ := ow_cells h
  have HKY := Lib.hid keys_any
  have hkc : kk.cnt < 8796093022208 := by have := h.few; have := HN.out; omega
  have HCL := Lib.hid (collect_any h.own h.lt hkc)
  have HW2 := Lib.hid hw2; have HBW2 := Lib.hid hbw2; have HCI := Lib.hid ci2
  clear h hw2 hbw2 ci2
  go_wp2_with (first
    | (go_at_call 37; refine (HKY.out _ _).mono ?_; rintro e w' ⟨rfl, rfl⟩)
    | (go_at_call 36; refine HCL.out.mono ?_; rintro e w4 ⟨v, ss, rfl, q1, q2, q3, q4, hrow, hb4⟩; have HQ1 := Lib.hid q1; have HQ2 := Lib.hid q2; have HQ3 := Lib.hid q3; have HQ4 := Lib.hid q4; have HRW := Lib.hid hrow; have HB4 := Lib.hid hb4; clear q1 q2 q3 q4 hrow hb4))
  have hb5 : Below w.heap.size w w4 := (HBW2.out.trans ((below_alloc W2 _).mono HBW2.out.size)).trans (HB4.out.mono (by rw [size_alloc]; have := HBW2.out.size; omega))
  have h5 := (HH.out.below hb5).owners.each id kk HK.out
  obtain ⟨k0, -, k2, -⟩ := ow_cells h5
  rw [HWT.out] at k2
  clear h5 hb5
  go_wp2
  go_quiet (fail)
  have HSO := Lib.hid (sort_row (row_kept HRW.out (below_drew1 w4 nq)) (by have := HQ4.out; omega))
  clear k0 k2
  go_wp2_with (go_at_call 38; refine HSO.out.mono ?_; rintro e w6 ⟨rfl, hrow6, row6, hg6, hr6⟩; obtain ⟨nb, ns, hns, hnl, hf6⟩ := fra_start HH.out HBW2.out HCI.out ((HB4.out.trans ((below_drew1 w4 nq).mono HB4.out.size)).trans ⟨hg6.os, hg6.tape, hg6.output, hg6.size, fun b hb => hg6.block b (by have := HB4.out.size; show b < w4.heap.size; omega) (fun e => by have := hr6 b e.symm; omega)⟩) hrow6 HQ1.out HQ2.out HQ3.out HQ4.out; have HNS := Lib.hid hns; have HF6 := Lib.hid hf6; clear hrow6 hg6 hr6 hns hf6)
  obtain ⟨c0, c1⟩ := tab_cells HF6.out.tab
  have ci6 := HF6.out.idc
  have hnm := HNS.out.size
  obtain ⟨w7, hdel, t7, s7, u7⟩ := del_owner (HF6.out.tab.below (Below.drew (Below.refl _ w6))) HO.out 0
  have HF7 := Lib.hid (fra_step (fra_below HF6.out (Below.drew (Below.refl _ w6))) t7 s7)
  rw [← part_none] at HF7
  obtain ⟨na, ncap, rfl, hnc, hncm, hnz, hnp⟩ := slc_form HF7.out.slc
  obtain ⟨n, hn⟩ : ∃ n, n = ns.length := ⟨_, rfl⟩
  rw [← hn] at hnl hnc HF7 ⊢
  have HN0 := Lib.hid hn
  unfold maxLen at hncm
  clear t7 s7 u7 hnm hnz hnp hn HF6
  go_still_tail 5, (by kernel_rfl)
  change wpList _ _ _ _ _ w6.drew
  refine wpList_delete_run rfl (.tmp 68) (.tmp 69) _ _ rfl _ _ _ rfl rfl (fun ty => hdel) ?_
  go_wp2
  have HL7 := Lib.hid (fra_lks HH.out HNS.out HC.out)
  clear c0 c1 ci6 hdel
  go_loopw [72] (fun i wr => ∃ (j : Nat) (x' : Gh), j ≤ n ∧ i = .int .i64 (j : Int) ∧ Hid (Fra w wr g x N id (part S id (ns.take j)) x' (.slice na n ncap) nb ns w.heap.size) ∧ Hid (∀ nm ∈ ns, (x'.lk nm).isSome = true)) (fun i _ => n - (intOf i).toNat)
  case atStart => exact ⟨0, _, Nat.zero_le _, rfl, HF7, HL7⟩
  case round =>
    obtain ⟨j, x1, hj, rfl, hf, hl⟩ := hrel
    by_cases hlt : j < n
    · have hnj : j < ns.length := by rw [← HN0.out]; exact hlt
      have hget : ns[j]? = some ns[j] := List.getElem?_eq_getElem hnj
      have htk : ns.take (j + 1) = ns.take j ++ [ns[j]] := by rw [List.take_add_one, hget]; rfl
      have hmem := List.getElem_mem hnj
      have hslc := hf.out.slc
      rw [← HN0.out] at hslc
      obtain ⟨b, off, rfl, hcell⟩ := slc_at hslc (j := j) (u := .string ns[j]) (by rw [List.getElem?_map, hget]; rfl) hlt
      generalize ns[j] = nm at hcell htk hmem
      have hsm := HNS.out.size nm hmem
      obtain ⟨k, hk⟩ := Option.isSome_iff_exists.1 (hl.out nm hmem)
      obtain ⟨c0, -⟩ := tab_cells hf.out.tab
      have hlk := look_lk hf.out.tab.locks hsm
      rw [hk] at hlk
      simp only [Option.map_some, ptr] at hlk
      obtain ⟨k0, -⟩ := lk_cells (hf.out.tab.locks.each nm k hk)
      have ci := hf.out.idc
      obtain ⟨w8, hdel, t8, s8, u8⟩ := del_hold (hf.out.tab.below (Below.drew (Below.refl _ wr))) hk HO.out 0
      rw [part_step, ← htk] at t8
      have hf8 := fra_step (fra_below hf.out (Below.drew (Below.refl _ wr))) t8 s8
      have h8 := t8.locks.each nm k hk
      obtain ⟨-, k1⟩ := lk_cells h8
      have hq8 : ∀ p ∈ S.queue nm, p.1 ≠ id := not_waits HF.out HWT.out (fun p hp => (h8.qs p hp).2.1)
      obtain ⟨qa, qcap, hqv, -⟩ := slc_form h8.slc
      have HQV := Lib.hid hqv
      have HD := Lib.hid (deletefunc_not (q := S.queue nm) h8.slc rfl hf8.idc hq8)
      have HF8 := Lib.hid hf8; have HK1 := Lib.hid hk; have HL := hl
      clear htk hmem hslc hget hnj hsm hk t8 s8 u8 hf8 h8 hq8 hl hqv
      go_wp2
      go_still_tail 5, (by kernel_rfl)
      change wpList _ _ _ _ _ wr.drew
      refine wpList_delete_run rfl (.tmp 85) (.tmp 86) _ _ rfl _ _ _ rfl rfl (fun ty => hdel) ?_
      go_wp2_with (go_at_call 39; refine HD.out.mono ?_; rintro e w9 ⟨he9, hb9⟩; obtain ⟨⟨u9, hu9⟩, hf9, x9, hF9, hl9⟩ := fra_queue HF8.out HK1.out hb9; rw [HQV.out] at he9 hF9; subst he9; have HF9 := Lib.hid hF9; have HL9 := Lib.hid hl9; clear hb9 hF9 hl9)
      go_roundw
      case rel => exact ⟨j + 1, x9, by omega, by go_num, HF9, Lib.hid (fun n' hn' => HL9.out n' (HL.out n' hn'))⟩
      case measure => simp [intOf]; omega
    · have hjn : n = j := by omega
      subst hjn
      have hf1 := hf.out
      rw [List.take_of_length_le (by rw [HN0.out]; exact Nat.le_refl _), part_all (fun n' hn' => (HNS.out.mem n').2 (by rw [← HC.out]; exact hn'))] at hf1
      have HF1 := Lib.hid hf1
      clear hf1
      go_wp2
      clear hlt
      obtain ⟨iu, RU⟩ := rowU64
      have HRU := Lib.hid RU
      have HF2 : Hid (Fro w wr g x N id S (freed S id) x1 (.slice na n ncap) nb ns 0 [] (.slice none 0 0) none) := Lib.hid ⟨HF1.out, slc_nil _ _, (fun b e => by cases e), .start, wf_freed HF.out HWT.out (queue_modes HH.out), hl.out⟩
      clear hf hl RU
      go_loopw [10, 99] (fun vo i wr => ∃ (j : Nat) (S1 : St) (x1 : Gh) (outs : List Nat) (bo : Option Nat), j ≤ n ∧ i = .int .i64 (j : Int) ∧ Hid (Fro w wr g x N id S S1 x1 (.slice na n ncap) nb ns j outs vo bo)) (fun _ i _ => n - (intOf i).toNat)
      case atStart => exact ⟨0, _, x1, [], none, Nat.zero_le _, rfl, HF2⟩
      case round =>
        obtain ⟨j, S1, x2, outs, bo, hj, rfl, hf⟩ := hrel
        by_cases hlt : j < n
        · have hnj : j < ns.length := by rw [← HN0.out]; exact hlt
          have hget : ns[j]? = some ns[j] := List.getElem?_eq_getElem hnj
          have hmem := List.getElem_mem hnj
          have hslc := hf.out.fra.slc
          rw [← HN0.out] at hslc
          obtain ⟨b, off, rfl, hcell⟩ := slc_at hslc (j := j) (u := .string ns[j]) (by rw [List.getElem?_map, hget]; rfl) hlt
          have hdr : ns[j] ∈ ns.drop j := by rw [List.drop_eq_getElem_cons hnj]; exact List.mem_cons_self
          generalize ns[j] = nm at hcell hget hmem hdr
          have hsm := HNS.out.size nm hmem
          obtain ⟨k, hk⟩ := Option.isSome_iff_exists.1 (hf.out.lks nm hdr)
          have HSV := Lib.hid (serve_any hf.out.fra.tab HN.out hf.out.wf hsm hk)
          have HGET := Lib.hid hget
          clear hmem hslc hget hnj hsm hk hdr
          go_wp2_with (first
            | (go_at_call 41; refine HSV.out.mono ?_; rintro e w2 ⟨S2, x3, more, v2, bo2, rfl, t2, p2, d2, f2, s2, m2, b2, l2⟩; have HM := Lib.hid (show Tab w2 g S2 x3 N ∧ Path nm S1 S2 more ∧ Done S2 nm ∧ Wf S2 ∧ Steps wr w2 x2 x3 ∧ ∀ n, n ≠ nm → (x2.lk n).isSome = true → (x3.lk n).isSome = true from ⟨t2, p2, d2, f2, s2, l2⟩); have hbd := HB.out _ _ _ (show All (ns.take j ++ [nm]) _ _ _ from .snoc hf.out.all p2 d2); rw [List.length_append] at hbd; have HM2 := Lib.hid m2; have HSO := Lib.hid (slc_turned hf.out.slc s2.turned (fun b e => by rw [(hf.out.bo b e).2.1]; simp)); clear t2 p2 d2 f2 s2 m2 b2 l2)
            | (refine wpList_slc HRU.out rfl (.tmp 103) (.tmp 106) 29 rfl rfl rfl HSO.out (slc_src Try.underlying29 HM2.out) rfl (by unfold maxLen; omega) (by omega) ?_; intro ao3 cap3 bo3 w3 g1 g2 g3; have HF3 := Lib.hid (fro_step hf.out HGET.out HNS.out.sorted HM.out.1 HM.out.2.1 HM.out.2.2.1 HM.out.2.2.2.1 HM.out.2.2.2.2.1 HM.out.2.2.2.2.2 g1 g2 g3); clear g1 g2 g3))
          go_roundw
          case rel => exact ⟨j + 1, _, _, _, bo3, by omega, by go_num, HF3⟩
          case measure => simp [intOf]; omega
        · have hjn : n = j := by omega
          subst hjn
          go_wp2
          rw [← HR.out]
          have hall := hf.out.all
          rw [List.take_of_length_le (by rw [HN0.out]; exact Nat.le_refl _)] at hall
          exact ⟨ns, S1, x2, outs, _, bo, rfl, HNS.out, hall, hf.out.fra.tab, hf.out.fra.steps, hf.out.wf, hf.out.slc, fun b e => ⟨(hf.out.bo b e).1, (hf.out.bo b e).2.1⟩⟩
end Go.Proofs.Ythanjncpgcmnaaa

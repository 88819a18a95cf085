/- All that one holds or waits for is given up: the walk, whoever it is. -/
import Derived.Test.YthanjncpgcmnaaaLckDlf
namespace Go.Proofs.Ythanjncpgcmnaaa
open Go.ChangeShapes Go.WideShapes Go.ChangeAt Go.RowKit

theorem infoStr : (Try.prog.info? 9).map (fun i => (i.zero, i.size, i.bytes)) = some (some (.string ⟨#[]⟩), 1, 16) := by kernel_rfl
/-- Where one holds or waits. -/
def want (S : St) (id : Nat) (nm : ByteArray) : Nat := if S.held id nm ≠ 0 then S.held id nm else if (S.waits id).2 ≠ 0 ∧ (S.waits id).1 = nm then 1 else 0
theorem want_iff {S : St} {id : Nat} {nm : ByteArray} : want S id nm ≠ 0 ↔ S.held id nm ≠ 0 ∨ ((S.waits id).2 ≠ 0 ∧ (S.waits id).1 = nm) := by
  unfold want
  by_cases h : S.held id nm = 0
  · by_cases h2 : (S.waits id).2 ≠ 0 ∧ (S.waits id).1 = nm
    · simp only [h, h2]; simp
    · rw [if_neg (by simpa using h), if_neg h2]; exact ⟨fun h' => absurd rfl h', fun h' => h'.elim (fun h' => absurd h h') (fun h' => absurd h' h2)⟩
  · rw [if_pos h]; exact ⟨fun _ => .inl h, fun _ => h⟩
theorem rem_rem (q : List (Nat × Nat)) (id : Nat) : rem (rem q id) id = rem q id := by simp [rem, List.filter_filter]
theorem mem_rem {q : List (Nat × Nat)} {id : Nat} {p : Nat × Nat} : p ∈ rem q id ↔ p ∈ q ∧ p.1 ≠ id := by simp [rem]
open Classical in
/-- What is left of the first names. -/
noncomputable def partG (S : St) (id : Nat) (ns : List ByteArray) : St := { hold := fun n o => if o = id ∧ n ∈ ns then 0 else S.hold n o, queue := fun n => if n ∈ ns then rem (S.queue n) id else S.queue n, held := upd S.held id (fun _ => 0), waits := upd S.waits id (⟨#[]⟩, 0) }
/-- One holds nothing, and waits for nothing. -/
def freedG (S : St) (id : Nat) : St := { hold := fun n o => if o = id then 0 else S.hold n o, queue := fun n => rem (S.queue n) id, held := upd S.held id (fun _ => 0), waits := upd S.waits id (⟨#[]⟩, 0) }
theorem partG_all {S : St} {id : Nat} {ns : List ByteArray} (h : ∀ n, S.hold n id ≠ 0 → n ∈ ns) (h2 : ∀ n, n ∉ ns → ∀ p ∈ S.queue n, p.1 ≠ id) : partG S id ns = freedG S id := by
  unfold partG freedG
  congr 1
  · funext n o
    by_cases e : o = id
    · subst e
      by_cases hn : n ∈ ns
      · rw [if_pos ⟨rfl, hn⟩, if_pos rfl]
      · rw [if_neg (fun h' => hn h'.2), if_pos rfl]
        exact Classical.byContradiction fun h' => hn (h n h')
    · rw [if_neg (fun h' => e h'.1), if_neg e]
  · funext n
    by_cases hn : n ∈ ns
    · rw [if_pos hn]
    · rw [if_neg hn, rem_none (h2 n hn)]
theorem partG_step {S : St} {id : Nat} {ns : List ByteArray} {n : ByteArray} : ({ hold := upd (partG S id ns).hold n (upd ((partG S id ns).hold n) id 0), queue := upd (partG S id ns).queue n (rem ((partG S id ns).queue n) id), held := (partG S id ns).held, waits := (partG S id ns).waits } : St) = partG S id (ns ++ [n]) := by
  have key : upd (partG S id ns).hold n (upd ((partG S id ns).hold n) id 0) = (partG S id (ns ++ [n])).hold := by
    funext n' o
    by_cases e : n' = n
    · subst e
      rw [upd_same]
      by_cases eo : o = id
      · subst eo
        rw [upd_same]
        exact (if_pos ⟨rfl, by simp⟩).symm
      · rw [upd_other _ _ eo]
        exact (if_neg (fun h => eo h.1)).trans (if_neg (fun h => eo h.1)).symm
    · rw [upd_other _ _ e]
      have : (o = id ∧ n' ∈ ns) ↔ (o = id ∧ n' ∈ ns ++ [n]) := by simp [e]
      by_cases h : o = id ∧ n' ∈ ns
      · exact (if_pos h).trans (if_pos (this.1 h)).symm
      · exact (if_neg h).trans (if_neg (fun h' => h (this.2 h'))).symm
  have key2 : upd (partG S id ns).queue n (rem ((partG S id ns).queue n) id) = (partG S id (ns ++ [n])).queue := by
    funext n'
    by_cases e : n' = n
    · subst e
      rw [upd_same]
      have h1 : (partG S id (ns ++ [n'])).queue n' = rem (S.queue n') id := if_pos (by simp)
      rw [h1]
      by_cases hm : n' ∈ ns
      · rw [show (partG S id ns).queue n' = rem (S.queue n') id from if_pos hm, rem_rem]
      · rw [show (partG S id ns).queue n' = S.queue n' from if_neg hm]
    · rw [upd_other _ _ e]
      by_cases hm : n' ∈ ns
      · exact (if_pos hm).trans (if_pos (by simp [hm])).symm
      · exact (if_neg hm).trans (if_neg (by simp [hm, e])).symm
  rw [key, key2]
  rfl
theorem partG_none {S : St} {id : Nat} : partG S id [] = { S with held := upd S.held id (fun _ => 0), waits := upd S.waits id (⟨#[]⟩, 0) } := by
  have h1 : (partG S id []).hold = S.hold := by
    funext n o
    exact if_neg (fun h => by cases h.2)
  have h2 : (partG S id []).queue = S.queue := by
    funext n
    exact if_neg (fun h => by cases h)
  show St.mk (partG S id []).hold (partG S id []).queue _ _ = _
  rw [h1, h2]
theorem wf_freedG {S : St} {id : Nat} (h : Wf S) : Wf (freedG S id) :=
  ⟨fun n o m hm => by
    obtain ⟨h1, h2⟩ := mem_rem.1 (show (o, m) ∈ rem (S.queue n) id from hm)
    show upd S.waits id _ o = _
    rw [upd_other _ _ h2]
    exact h.waits n o m h1, fun n => (h.once n).sublist (List.Sublist.map _ List.filter_sublist)⟩
theorem once_partG {S : St} {id : Nat} {ns : List ByteArray} (h : Wf S) (n : ByteArray) : (((partG S id ns).queue n).map (·.1)).Nodup := by
  by_cases hm : n ∈ ns
  · rw [show (partG S id ns).queue n = rem (S.queue n) id from if_pos hm]
    exact (h.once n).sublist (List.Sublist.map _ List.filter_sublist)
  · rw [show (partG S id ns).queue n = S.queue n from if_neg hm]; exact h.once n
/-- The names of these, in a row of one's own. -/
def NRow (w4 wx : World) (B : Nat) (S : St) (id cnt : Nat) (v : Value) : Prop := ∃ ss : List (List UInt8), wx.ownsRow B 9 1 v ss.length (ss.map encStr) ∧ ss.Nodup ∧ (∀ x ∈ ss, x.length ≤ maxLen) ∧ (∀ x, x ∈ ss ↔ want S id (nmOf x) ≠ 0) ∧ ss.length ≤ cnt + 1 ∧ Below B w4 wx
/-- What Free tells. -/
def FreesG (W : World) (g : Nat) (S : St) (x : Gh) (N : Nat) (id : Nat) (e : Ending) (w' : World) : Prop :=
  ∃ ns S' x' outs v bo, e = .returned v ∧ Names (want S id) ns ∧ All ns (freedG S id) S' outs ∧ Tab w' g S' x' N ∧ Steps W w' x x' ∧ Wf S' ∧ Slc w' bo 1 v outs.length (u64s outs) ∧ ∀ b, bo = some b → W.heap.size ≤ b ∧ x'.who b = .out
theorem frag_start {w W2 W6 : World} {g : Nat} {S : St} {x : Gh} {N : Nat} (H : Tab w g S x N) {ob : Obj} {id : Nat} {v : Value} {ss : List (List UInt8)} {n : Nat} {f : ByteArray → Nat} (hb2 : Below w.heap.size w W2) (hc : W2.cell? ⟨w.heap.size, 0, none⟩ = some (.int .u64 (id : Int)))
    (hb : Below (W2.alloc ob).heap.size (W2.alloc ob) W6) (hrow : W6.ownsRow (W2.alloc ob).heap.size 9 1 v ss.length ((ss.mergeSort fun x y => decide (x ≤ y)).map encStr)) (h1 : ss.Nodup) (h2 : ∀ x ∈ ss, x.length ≤ maxLen) (h3 : ∀ x, x ∈ ss ↔ f (nmOf x) ≠ 0) (h4 : ss.length ≤ n) :
    ∃ nb ns, Names f ns ∧ ns.length ≤ n ∧ Fra w W6 g x N id S x v nb ns w.heap.size := by
  have hsz := size_alloc W2 ob
  have hlt := World.block_lt_of_cell? W2 _ hc
  have hlt : w.heap.size < W2.heap.size := hlt
  have hb6 : Below w.heap.size w W6 := (hb2.trans ((below_alloc W2 ob).mono hb2.size)).trans (hb.mono (by omega))
  obtain ⟨nb, hs, hnb⟩ := slc_of_own hrow (fun u hu => by obtain ⟨z, _, rfl⟩ := List.mem_map.1 hu; rfl)
  have hout : ∀ b, w.heap.size ≤ b → x.who b = .out := fun b hb => Classical.byContradiction fun h => by have := H.lt b h; omega
  have hl : ((ss.mergeSort fun x y => decide (x ≤ y)).map nmOf).length = ss.length := by rw [List.length_map, List.length_mergeSort]
  refine ⟨nb, (ss.mergeSort fun x y => decide (x ≤ y)).map nmOf, names_sort (List.Perm.refl _) h1 h2 h3, by omega, H.below hb6, Steps.below _ hb6, ?_, fun b e => ?_, ?_, hout _ (Nat.le_refl _)⟩
  · rw [← str_map, hl]; exact hs
  · have := (hnb b e).1
    exact ⟨by omega, hout b (by omega)⟩
  · rw [World.cell?_of_block (a := ⟨w.heap.size, 0, none⟩) (hb.block _ (by show w.heap.size < _; omega)), World.cell?_of_block (a := ⟨w.heap.size, 0, none⟩) ((below_alloc W2 ob).block _ hlt)]
    exact hc
theorem frag_queue {W wr w9 : World} {g : Nat} {x : Gh} {N : Nat} {id : Nat} {S1 : St} {x' : Gh} {v : Value} {nb : Option Nat} {ns : List ByteArray} {c : Nat} (hf : Fra W wr g x N id S1 x' v nb ns c) {nm : ByteArray} {k : LkG} (hk : x'.lk nm = some k) {e : Ending} (hw : Without wr k.qb (S1.queue nm) id e w9) :
    ∃ a n' cp, e = .returned (.slice a n' cp) ∧ (∃ u, w9.cell? ⟨k.b, 1, none⟩ = some u) ∧ w9.frozen? ⟨k.b, 1, none⟩ = false ∧ ∃ x2, Fra W (w9.setCell ⟨k.b, 1, none⟩ (.slice a n' cp)) g x N id { S1 with queue := upd S1.queue nm (rem (S1.queue nm) id) } x2 v nb ns c ∧ ∀ n, (x'.lk n).isSome = true → (x2.lk n).isSome = true := by
  obtain ⟨v9, rfl, hs9, ht9⟩ := hw
  obtain ⟨a, cp, rfl, -⟩ := slc_form hs9
  have h := hf.tab.locks.each nm k hk
  have hT : Turned (fun b => x'.who b = .qb nm) wr w9 := ht9.mono (fun b e => h.tq b e)
  have hkl := cells_kept h.cells (hT.block _ (cells_lt h.cells) (by rw [h.tb]; simp))
  have hlen : (rem (S1.queue nm) id).length ≤ (S1.queue nm).length := List.length_filter_le _ _
  obtain ⟨x2, t2, s2, -, k', l2, -, -⟩ := set_queueN hf.tab (Nat.le_refl N) hk hT hs9 (.inl rfl) (fun p hp => h.qs p (mem_rem.1 hp).1) (by have := h.few; omega)
  refine ⟨a, _, cp, rfl, ⟨_, (cell_of_row _ _ 1 _ _ _ hkl).trans rfl⟩, frozen_of_row _ _ _ _ _ hkl, x2, fra_step hf t2 s2, fun n hn => ?_⟩
  rw [l2]
  by_cases e : n = nm
  · rw [e, upd_same]; rfl
  · rw [upd_other _ _ e]; exact hn
theorem frag_lks {w : World} {g : Nat} {S : St} {x : Gh} {N : Nat} (H : Tab w g S x N) {id : Nat} {ns : List ByteArray} (hns : Names (want S id) ns) (hc : ∀ n, S.hold n id = S.held id n) (hb : (S.waits id).2 ≠ 0 → (id, (S.waits id).2) ∈ S.queue (S.waits id).1) : ∀ nm ∈ ns, (x.lk nm).isSome = true := fun nm hm => by
  have h1 := want_iff.1 ((hns.mem nm).1 hm)
  cases e : x.lk nm with
  | none =>
    obtain ⟨h2, h3⟩ := H.locks.none nm e
    rcases h1 with h1 | ⟨h1, rfl⟩
    · exact absurd (by rw [← hc]; exact h2 id) h1
    · have := hb h1; rw [h3] at this; cases this
  | some k => rfl
/-- On the way through the names that are served. -/
structure FroG (W wr : World) (g : Nat) (x : Gh) (N : Nat) (id : Nat) (S S1 : St) (x1 : Gh) (v : Value) (nb : Option Nat) (ns : List ByteArray) (j : Nat) (outs : List Nat) (vo : Value) (bo : Option Nat) : Prop where
  fra : Fra W wr g x N id S1 x1 v nb ns W.heap.size
  slc : Slc wr bo 1 vo outs.length (u64s outs)
  bo : ∀ b, bo = some b → W.heap.size ≤ b ∧ x1.who b = .out ∧ nb ≠ some b ∧ b ≠ W.heap.size
  all : All (ns.take j) (freedG S id) S1 outs
  wf : Wf S1
  lks : ∀ nm ∈ ns.drop j, (x1.lk nm).isSome = true
theorem frog_step {W wr w2 w3 : World} {g : Nat} {x : Gh} {N : Nat} {id : Nat} {S S1 S2 : St} {x1 x2 : Gh} {v : Value} {nb : Option Nat} {ns : List ByteArray} {j : Nat} {outs more : List Nat} {vo v3 : Value} {bo bo3 : Option Nat} (h : FroG W wr g x N id S S1 x1 v nb ns j outs vo bo) {nm : ByteArray} (hget : ns[j]? = some nm) (hnd : ns.Pairwise fun a b => a.data.toList ≤ b.data.toList ∧ a ≠ b)
    (ht : Tab w2 g S2 x2 N) (hp : Path nm S1 S2 more) (hd : Done S2 nm) (hw : Wf S2) (hs : Steps wr w2 x1 x2) (hl : ∀ n, n ≠ nm → (x1.lk n).isSome = true → (x2.lk n).isSome = true)
    (h1 : Slc w3 bo3 1 v3 (outs.length + more.length) (u64s outs ++ u64s more)) (h2 : Turned (fun k => bo = some k) w2 w3) (h3 : bo3 = bo ∨ bo3 = some w2.heap.size) : FroG W w3 g x N id S S2 x2 v nb ns (j + 1) (outs ++ more) v3 bo3 := by
  have htk : ns.take (j + 1) = ns.take j ++ [nm] := by rw [List.take_add_one, hget]; rfl
  have hdr : ns.drop j = nm :: ns.drop (j + 1) := by
    obtain ⟨hj, e⟩ := List.getElem?_eq_some_iff.1 hget
    rw [← e]; exact List.drop_eq_getElem_cons hj
  have hf2 := fra_step h.fra ht hs
  have hbo2 : ∀ b, bo = some b → W.heap.size ≤ b ∧ x2.who b = .out ∧ nb ≠ some b ∧ b ≠ W.heap.size := fun b e => by
    obtain ⟨a1, a2, a3, a4⟩ := h.bo b e
    exact ⟨a1, by rw [hs.ext b (slc_lt h.slc b e)]; exact a2, a3, a4⟩
  have hcl := World.block_lt_of_cell? w2 _ hf2.idc
  have hcl : W.heap.size < w2.heap.size := hcl
  refine ⟨fra_out hf2 h2 hbo2, ?_, fun b e => ?_, ?_, hw, fun n hn => ?_⟩
  · rw [List.length_append, show u64s (outs ++ more) = u64s outs ++ u64s more from List.map_append]; exact h1
  · rcases h3 with h3 | h3
    · exact hbo2 b (h3 ▸ e)
    · rw [h3] at e; cases e
      refine ⟨by omega, Classical.byContradiction fun h' => ?_, fun e' => ?_, by omega⟩
      · have := ht.lt _ h'; omega
      · have := slc_lt hf2.slc _ e'; omega
  · rw [htk]; exact .snoc h.all hp hd
  · have hnd2 : (nm :: ns.drop (j + 1)).Pairwise fun a b => a.data.toList ≤ b.data.toList ∧ a ≠ b := by rw [← hdr]; exact hnd.sublist (List.drop_sublist _ _)
    refine hl n (fun e => ?_) (h.lks n (by rw [hdr]; exact List.mem_cons_of_mem _ hn))
    subst e
    exact ((List.pairwise_cons.1 hnd2).1 n hn).2 rfl
set_option maxRecDepth 100000 in
set_option maxHeartbeats 4000000 in
theorem freeg_any {w : World} {g : Nat} {S : St} {x : Gh} {N : Nat} (H : Tab w g S x N) (hN : N + 1 < 8796093022208) (hf : Wf S) {id : Nat} (ho : id < top) {kk : OwG} (hk : x.ow id = some kk) (hcons : ∀ n, S.hold n id = S.held id n) (hbk : (S.waits id).2 ≠ 0 → (id, (S.waits id).2) ∈ S.queue (S.waits id).1)
    (hB : ∀ ns S' outs, All ns (freedG S id) S' outs → outs.length ≤ 8796093022208) :
    Calls Try.prog 16 #[.pointer (some ⟨g, 0, none⟩), .int .u64 (id : Int)] w (FreesG w g S x N id) := by
  have hb1 := below_alloc w (.cells #[.int .u64 (id : Int)] 27)
  have H1 := H.below hb1
  obtain ⟨c0, c1⟩ := tab_cells H1
  have ci : (w.alloc (.cells #[.int .u64 (id : Int)] 27)).cell? ⟨w.heap.size, 0, none⟩ = some (.int .u64 (id : Int)) := (cell_of_row _ _ 0 _ _ _ (cells_new w 27 #[.int .u64 (id : Int)])).trans rfl
  have hlk : ∀ n, (Instr.lookup 58 (.map (some x.om)) (.int .u64 (id : Int)) false).run Try.prog ((w.alloc (.cells #[.int .u64 (id : Int)] 27)).drewN n) = .ok (.pointer (some ⟨kk.b, 0, none⟩)) ((w.alloc (.cells #[.int .u64 (id : Int)] 27)).drewN n) := fun n => by
    have := look_ow (H1.below (below_drew1 _ n)).owners ho
    rw [hk] at this
    exact this
  have hgs : g < w.heap.size := cells_lt H.cells
  have HH := Lib.hid H; have HN := Lib.hid hN; have HF := Lib.hid hf; have HO := Lib.hid ho; have HK := Lib.hid hk; have HC := Lib.hid hcons; have HBK := Lib.hid hbk; have HB := Lib.hid hB; have H1' := Lib.hid H1
  generalize hR : FreesG w g S x N id = R
  have HR := Lib.hid hR
  clear hb1 H1 H hN hf ho hk hcons hbk hB hR
  go_enter Try.func16, Try.ntmps16
  go_wp2
  go_quiet (fail)
  have hw1 := HH.out.below (below_drewN (below_alloc w (.cells #[.int .u64 (id : Int)] 27)) nq)
  have hbw1 : Below w.heap.size w ((w.alloc (.cells #[.int .u64 (id : Int)] 27)).drewN nq) := below_drewN (below_alloc w _) nq
  have ci1 : ((w.alloc (.cells #[.int .u64 (id : Int)] 27)).drewN nq).cell? ⟨w.heap.size, 0, none⟩ = some (.int .u64 (id : Int)) := ci
  have hs1 : w.heap.size < ((w.alloc (.cells #[.int .u64 (id : Int)] 27)).drewN nq).heap.size := World.block_lt_of_cell? _ _ ci1
  clear c0 c1 ci hlk
  generalize (w.alloc (.cells #[.int .u64 (id : Int)] 27)).drewN nq = W1 at hw1 hbw1 ci1 hs1 ⊢
  obtain ⟨c0, c1⟩ := tab_cells hw1
  have hlk : ∀ n, (Instr.lookup 58 (.map (some x.om)) (.int .u64 (id : Int)) false).run Try.prog (W1.drewN n) = .ok (.pointer (some ⟨kk.b, 0, none⟩)) (W1.drewN n) := fun n => by
    have := look_ow (hw1.below (below_drew1 W1 n)).owners HO.out
    rw [HK.out] at this
    exact this
  have HW1 := Lib.hid hw1; have HBW1 := Lib.hid hbw1; have HS1 := Lib.hid hs1
  clear hw1 hbw1 c0 hs1
  go_wp2
  go_quiet (fail)
  have hw2 := HW1.out.below (below_drew1 W1 nq)
  have hbw2 : Below w.heap.size w (W1.drewN nq) := below_drewN HBW1.out nq
  have ci2 : (W1.drewN nq).cell? ⟨w.heap.size, 0, none⟩ = some (.int .u64 (id : Int)) := ci1
  clear c1 ci1 hlk
  generalize W1.drewN nq = W2 at hw2 hbw2 ci2 ⊢
  have h := hw2.owners.each id kk HK.out
  obtain ⟨k0, -, k2, -⟩ := ow_cells h
  have HKY := Lib.hid keys_any
  have hkc : kk.cnt < 8796093022208 := by have := h.few; have := HN.out; omega
  have HCL := Lib.hid (collect_any h.own h.lt hkc)
  have HW2 := Lib.hid hw2; have HBW2 := Lib.hid hbw2; have HCI := Lib.hid ci2
  clear h hw2 hbw2 ci2
  go_wp2_with (first
    | (go_at_call 37; refine (HKY.out _ _).mono ?_; rintro e w' ⟨rfl, rfl⟩)
    | (go_at_call 36; refine HCL.out.mono ?_; rintro e w4 ⟨v, ss, rfl, q1, q2, q3, q4, hrow, hb4⟩; have HQ1 := Lib.hid q1; have HQ2 := Lib.hid q2; have HQ3 := Lib.hid q3; have HQ4 := Lib.hid q4; have HRW := Lib.hid hrow; have HB4 := Lib.hid hb4; clear q1 q2 q3 q4 hrow hb4))
  have hb5 : Below w.heap.size w w4 := (HBW2.out.trans ((below_alloc W2 _).mono HBW2.out.size)).trans (HB4.out.mono (by rw [size_alloc]; have := HBW2.out.size; omega))
  have h5 := (HH.out.below hb5).owners.each id kk HK.out
  have hwn := h5.wt.1
  have hlm : ∀ n, (Instr.lookup 77 (.map (some kk.hm)) (.string (S.waits id).1) false).run Try.prog (w4.drewN n) = .ok (.int .i64 (S.held id (S.waits id).1 : Int)) (w4.drewN n) := fun n => look_held (((HH.out.below hb5).below (below_drew1 w4 n)).owners.each id kk HK.out) hwn
  obtain ⟨k0, k1, k2, -⟩ := ow_cells h5
  have HB5 := Lib.hid hb5
  have HWN := Lib.hid hwn
  have HFW : Hid (kk.cnt ≤ N) := Lib.hid (by have := h5.few; omega)
  clear h5 hb5 hwn
  obtain ⟨si, hsi, hs0, hs1, hs2⟩ := info_parts infoStr
  have HSI := Lib.hid hsi; have HSZ := Lib.hid hs0; have HS1 := Lib.hid hs1; have HS2 := Lib.hid hs2
  clear hsi hs0 hs1 hs2
  have HWI : Hid (∀ nm, want S id nm ≠ 0 ↔ S.held id nm ≠ 0 ∨ ((S.waits id).2 ≠ 0 ∧ (S.waits id).1 = nm)) := Lib.hid (fun nm => want_iff)
  have HWT : Hid ((S.waits id).2 ≤ 4) := Lib.hid ((HH.out.owners.each id kk HK.out).wt.2)
  generalize hnm0 : (S.waits id).1 = nm0 at hlm k1 HWN HWI
  generalize hmm0 : (S.waits id).2 = m0 at k2 HWI HWT
  generalize hhh0 : S.held id nm0 = h0 at hlm
  have HNM0 := Lib.hid hnm0; have HMM0 := Lib.hid hmm0; have HHH0 := Lib.hid hhh0
  clear hnm0 hmm0 hhh0 HKY HCL HW2 H1'
  by_cases hw0 : m0 = 0
  · subst hw0
    clear k1 hlm
    go_wp2
    go_quiet (fail)
    have HNR : Hid (NRow w4 (w4.drewN nq) (W2.alloc (.cells #[.map (some kk.hm)] 77)).heap.size S id kk.cnt v) := Lib.hid ⟨ss, row_kept HRW.out (below_drew1 w4 nq), HQ1.out, HQ2.out, fun x => (HQ3.out x).trans ⟨fun h => (HWI.out _).2 (.inl h), fun h => ((HWI.out _).1 h).resolve_right (fun h => h.1 rfl)⟩, by have := HQ4.out; omega, (below_drew1 w4 nq).mono HB4.out.size⟩
    obtain ⟨v5, hv5⟩ : ∃ v5, v5 = v := ⟨_, rfl⟩
    rw [← hv5] at HNR ⊢
    generalize w4.drewN nq = w5 at HNR ⊢
    clear k0 k2 hv5
    obtain ⟨ss', hrow5, hnd5, hsz5, hmem5, hlen5, hbel5⟩ := HNR.out
    have HSO := Lib.hid (sort_row hrow5 (by have := HN.out; have := HFW.out; omega))
    have HD5 := Lib.hid hnd5; have HZ5 := Lib.hid hsz5; have HM5 := Lib.hid hmem5; have HL5 := Lib.hid hlen5; have HE5 := Lib.hid hbel5
    clear hrow5 hnd5 hsz5 hmem5 hlen5 hbel5
    go_wp2_with (go_at_call 38; refine HSO.out.mono ?_; rintro e w6 ⟨rfl, hrow6, row6, hg6, hr6⟩; obtain ⟨nb, ns, hns, hnl, hf6⟩ := frag_start HH.out HBW2.out HCI.out ((HB4.out.trans HE5.out).trans ⟨hg6.os, hg6.tape, hg6.output, hg6.size, fun b hb => hg6.block b (by have := HB4.out.size; have := HE5.out.size; omega) (fun e => by have := hr6 b e.symm; omega)⟩) hrow6 HD5.out HZ5.out HM5.out HL5.out; have HNS := Lib.hid hns; have HF6 := Lib.hid hf6; clear hrow6 hg6 hr6 hns hf6)
    obtain ⟨c0, c1⟩ := tab_cells HF6.out.tab
    have ci6 := HF6.out.idc
    have hnm := HNS.out.size
    obtain ⟨w7, hdel, t7, s7, u7⟩ := del_owner (HF6.out.tab.below (Below.drew (Below.refl _ w6))) HO.out 0
    have HF7 := Lib.hid (fra_step (fra_below HF6.out (Below.drew (Below.refl _ w6))) t7 s7)
    rw [← partG_none] at HF7
    obtain ⟨na, ncap, rfl, hnc, hncm, hnz, hnp⟩ := slc_form HF7.out.slc
    obtain ⟨n, hn⟩ : ∃ n, n = ns.length := ⟨_, rfl⟩
    rw [← hn] at hnl hnc HF7 ⊢
    have HN0 := Lib.hid hn
    unfold maxLen at hncm
    clear t7 s7 u7 hnm hnz hnp hn HF6
    go_still_tail 5, (by kernel_rfl)
    change wpList _ _ _ _ _ w6.drew
    refine wpList_delete_run rfl (.tmp 68) (.tmp 69) _ _ rfl _ _ _ rfl rfl (fun ty => hdel) ?_
    go_wp2
    have HL7 := Lib.hid (frag_lks HH.out HNS.out HC.out HBK.out)
    clear c0 c1 ci6 hdel
    go_loopw [72] (fun i wr => ∃ (j : Nat) (x' : Gh), j ≤ n ∧ i = .int .i64 (j : Int) ∧ Hid (Fra w wr g x N id (partG S id (ns.take j)) x' (.slice na n ncap) nb ns w.heap.size) ∧ Hid (∀ nm ∈ ns, (x'.lk nm).isSome = true)) (fun i _ => n - (intOf i).toNat)
    case atStart => exact ⟨0, _, Nat.zero_le _, rfl, HF7, HL7⟩
    case round =>
      obtain ⟨j, x1, hj, rfl, hf, hl⟩ := hrel
      by_cases hlt : j < n
      · have hnj : j < ns.length := by rw [← HN0.out]; exact hlt
        have hget : ns[j]? = some ns[j] := List.getElem?_eq_getElem hnj
        have htk : ns.take (j + 1) = ns.take j ++ [ns[j]] := by rw [List.take_add_one, hget]; rfl
        have hmem := List.getElem_mem hnj
        have hslc := hf.out.slc
        rw [← HN0.out] at hslc
        obtain ⟨b, off, rfl, hcell⟩ := slc_at hslc (j := j) (u := .string ns[j]) (by rw [List.getElem?_map, hget]; rfl) hlt
        generalize ns[j] = nm at hcell htk hmem
        have hsm := HNS.out.size nm hmem
        obtain ⟨k, hk⟩ := Option.isSome_iff_exists.1 (hl.out nm hmem)
        obtain ⟨c0, -⟩ := tab_cells hf.out.tab
        have hlk := look_lk hf.out.tab.locks hsm
        rw [hk] at hlk
        simp only [Option.map_some, ptr] at hlk
        obtain ⟨k0, -⟩ := lk_cells (hf.out.tab.locks.each nm k hk)
        have ci := hf.out.idc
        obtain ⟨w8, hdel, t8, s8, u8⟩ := del_hold (hf.out.tab.below (Below.drew (Below.refl _ wr))) hk HO.out 0
        have hf8 := fra_step (fra_below hf.out (Below.drew (Below.refl _ wr))) t8 s8
        have h8 := t8.locks.each nm k hk
        obtain ⟨-, k1⟩ := lk_cells h8
        have HD := Lib.hid (deletefunc_any (q := (partG S id (ns.take j)).queue nm) h8.slc rfl hf8.idc (fun e => by have h9 := h8.tq _ e; rw [hf8.co] at h9; cases h9) (once_partG HF.out nm))
        have HW9 : Hid (∀ e w9, Without w8 k.qb ((partG S id (ns.take j)).queue nm) id e w9 → ∃ a n' cp, e = .returned (.slice a n' cp) ∧ (∃ u, w9.cell? ⟨k.b, 1, none⟩ = some u) ∧ w9.frozen? ⟨k.b, 1, none⟩ = false ∧ ∃ x2, Fra w (w9.setCell ⟨k.b, 1, none⟩ (.slice a n' cp)) g x N id (partG S id (ns.take (j + 1))) x2 (.slice (some ⟨b, off, none⟩) n ncap) nb ns w.heap.size ∧ ∀ n', (x1.lk n').isSome = true → (x2.lk n').isSome = true) := Lib.hid (fun e w9 hw9 => by
          rw [htk, ← partG_step]
          exact frag_queue hf8 hk hw9)
        have HF8 := Lib.hid hf8; have HK1 := Lib.hid hk; have HL := hl; have HTK := Lib.hid htk
        clear htk hmem hslc hget hnj hsm hk t8 s8 u8 hf8 h8 hl
        go_wp2
        go_still_tail 5, (by kernel_rfl)
        change wpList _ _ _ _ _ wr.drew
        refine wpList_delete_run rfl (.tmp 85) (.tmp 86) _ _ rfl _ _ _ rfl rfl (fun ty => hdel) ?_
        go_wp2_with (go_at_call 39; refine HD.out.mono ?_; rintro e w9 hw9; obtain ⟨a9, n9, p9, rfl, ⟨u9, hu9⟩, hf9, x9, hF9, hl9⟩ := HW9.out e w9 hw9; have HF9 := Lib.hid hF9; have HL9 := Lib.hid hl9; clear hw9 hF9 hl9)
        go_roundw
        case rel => exact ⟨j + 1, x9, by omega, by go_num, HF9, Lib.hid (fun n' hn' => HL9.out n' (HL.out n' hn'))⟩
        case measure => simp [intOf]; omega
      · have hjn : n = j := by omega
        subst hjn
        have hf1 := hf.out
        rw [List.take_of_length_le (by rw [HN0.out]; exact Nat.le_refl _), partG_all (fun n' hn' => (HNS.out.mem n').2 (want_iff.2 (.inl (by rw [← HC.out]; exact hn')))) (fun n' hn' p hp e => hn' ((HNS.out.mem n').2 (want_iff.2 (.inr (by obtain ⟨po, pm⟩ := p; have h1 := HF.out.waits n' po pm hp; have h2 := queue_modes HH.out n' po pm hp; have e : po = id := e; subst e; rw [h1]; exact ⟨by omega, rfl⟩)))))] at hf1
        have HF1 := Lib.hid hf1
        clear hf1
        go_wp2
        clear hlt
        obtain ⟨iu, RU⟩ := rowU64
        have HRU := Lib.hid RU
        have HF2 : Hid (FroG w wr g x N id S (freedG S id) x1 (.slice na n ncap) nb ns 0 [] (.slice none 0 0) none) := Lib.hid ⟨HF1.out, slc_nil _ _, (fun b e => by cases e), .start, wf_freedG HF.out, hl.out⟩
        clear hf hl RU
        go_loopw [10, 99] (fun vo i wr => ∃ (j : Nat) (S1 : St) (x1 : Gh) (outs : List Nat) (bo : Option Nat), j ≤ n ∧ i = .int .i64 (j : Int) ∧ Hid (FroG w wr g x N id S S1 x1 (.slice na n ncap) nb ns j outs vo bo)) (fun _ i _ => n - (intOf i).toNat)
        case atStart => exact ⟨0, _, x1, [], none, Nat.zero_le _, rfl, HF2⟩
        case round =>
          obtain ⟨j, S1, x2, outs, bo, hj, rfl, hf⟩ := hrel
          by_cases hlt : j < n
          · have hnj : j < ns.length := by rw [← HN0.out]; exact hlt
            have hget : ns[j]? = some ns[j] := List.getElem?_eq_getElem hnj
            have hmem := List.getElem_mem hnj
            have hslc := hf.out.fra.slc
            rw [← HN0.out] at hslc
            obtain ⟨b, off, rfl, hcell⟩ := slc_at hslc (j := j) (u := .string ns[j]) (by rw [List.getElem?_map, hget]; rfl) hlt
            have hdr : ns[j] ∈ ns.drop j := by rw [List.drop_eq_getElem_cons hnj]; exact List.mem_cons_self
            generalize ns[j] = nm at hcell hget hmem hdr
            have hsm := HNS.out.size nm hmem
            obtain ⟨k, hk⟩ := Option.isSome_iff_exists.1 (hf.out.lks nm hdr)
            have HSV := Lib.hid (serve_any hf.out.fra.tab (by have := HN.out; omega) hf.out.wf hsm hk)
            have HGET := Lib.hid hget
            clear hmem hslc hget hnj hsm hk hdr
            go_wp2_with (first
              | (go_at_call 41; refine HSV.out.mono ?_; rintro e w2 ⟨S2, x3, more, v2, bo2, rfl, t2, p2, d2, f2, s2, m2, b2, l2⟩; have HM := Lib.hid (show Tab w2 g S2 x3 N ∧ Path nm S1 S2 more ∧ Done S2 nm ∧ Wf S2 ∧ Steps wr w2 x2 x3 ∧ ∀ n, n ≠ nm → (x2.lk n).isSome = true → (x3.lk n).isSome = true from ⟨t2, p2, d2, f2, s2, l2⟩); have hbd := HB.out _ _ _ (show All (ns.take j ++ [nm]) _ _ _ from .snoc hf.out.all p2 d2); rw [List.length_append] at hbd; have HM2 := Lib.hid m2; have HSO := Lib.hid (slc_turned hf.out.slc s2.turned (fun b e => by rw [(hf.out.bo b e).2.1]; simp)); clear t2 p2 d2 f2 s2 m2 b2 l2)
              | (refine wpList_slc HRU.out rfl (.tmp 103) (.tmp 106) 29 rfl rfl rfl HSO.out (slc_src Try.underlying29 HM2.out) rfl (by unfold maxLen; omega) (by omega) ?_; intro ao3 cap3 bo3 w3 g1 g2 g3; have HF3 := Lib.hid (frog_step hf.out HGET.out HNS.out.sorted HM.out.1 HM.out.2.1 HM.out.2.2.1 HM.out.2.2.2.1 HM.out.2.2.2.2.1 HM.out.2.2.2.2.2 g1 g2 g3); clear g1 g2 g3))
            go_roundw
            case rel => exact ⟨j + 1, _, _, _, bo3, by omega, by go_num, HF3⟩
            case measure => simp [intOf]; omega
          · have hjn : n = j := by omega
            subst hjn
            go_wp2
            rw [← HR.out]
            have hall := hf.out.all
            rw [List.take_of_length_le (by rw [HN0.out]; exact Nat.le_refl _)] at hall
            exact ⟨ns, S1, x2, outs, _, bo, rfl, HNS.out, hall, hf.out.fra.tab, hf.out.fra.steps, hf.out.wf, hf.out.slc, fun b e => ⟨(hf.out.bo b e).1, (hf.out.bo b e).2.1⟩⟩
  · have d1 : ((m0 : Int) != 0) = true := by simp; omega
    by_cases hd : h0 = 0
    · subst hd
      go_wp2
      go_quiet (fail)
      go_wp2_with (at_builtin; refine wpList_append_own _ rfl (.tmp 55) (.tmp 61) 82 rfl (W2.alloc (.cells #[.map (some kk.hm)] 77)).heap.size 9 si (.string ⟨#[]⟩) 1 16 Try.underlying82 HSI.out HSZ.out HS1.out HS2.out rfl (by omega) v ss.length (ss.map encStr) rfl (row_kept HRW.out ((below_drew1 w4 nq).trans ((below_alloc (w4.drewN nq) _).mono (below_drew1 w4 nq).size))) ⟨(w4.drewN nq).heap.size, 0, none⟩ 1 1 [.string nm0] rfl rfl (fun j u hu => by
          rw [addr_add]
          match j, hu with
          | 0, hu => cases hu; exact (cell_of_row _ _ 0 _ _ _ (cells_new (w4.drewN nq) 9 #[.string nm0])).trans rfl) (fun u hu => by rw [List.mem_singleton] at hu; subst hu; rfl) (by have := HQ4.out; unfold maxLen; omega) (by have := HQ4.out; omega) (Nat.le_trans HB4.out.size (by rw [size_alloc]; exact Nat.le_succ_of_le (below_drew1 w4 nq).size)) ?_; intro v5 w5 o5 g5 _; have HO5 := Lib.hid o5; have HG5 := Lib.hid g5; clear o5 g5)
      have HNR : Hid (NRow w4 w5 (W2.alloc (.cells #[.map (some kk.hm)] 77)).heap.size S id kk.cnt v5) := Lib.hid (by
        refine ⟨ss ++ [nm0.data.toList], ?_, ?_, ?_, ?_, ?_, ?_⟩
        · have := HO5.out
          rw [List.length_append, List.map_append]
          exact this
        · rw [List.nodup_append]
          refine ⟨HQ1.out, by simp, fun a ha b hb e => ?_⟩
          rw [List.mem_singleton] at hb
          subst hb e
          have := (HQ3.out _).1 ha
          rw [nmOf_of] at this
          exact this HHH0.out
        · intro x hx
          rcases List.mem_append.1 hx with hx | hx
          · exact HQ2.out x hx
          · rw [List.mem_singleton] at hx; subst hx; exact HWN.out
        · intro x
          rw [List.mem_append, List.mem_singleton, HQ3.out, HWI.out]
          constructor
          · rintro (h | rfl)
            · exact .inl h
            · exact .inr ⟨hw0, (nmOf_of nm0).symm⟩
          · rintro (h | ⟨_, h⟩)
            · exact .inl h
            · exact .inr (by rw [h, nmOf_data])
        · have := HQ4.out
          rw [List.length_append, List.length_singleton]; omega
        · have hbb : Below (W2.alloc (.cells #[.map (some kk.hm)] 77)).heap.size w4 ((w4.drewN nq).alloc (.cells #[.string nm0] 9)) := ((below_drew1 w4 nq).trans ((below_alloc (w4.drewN nq) _).mono (below_drew1 w4 nq).size)).mono HB4.out.size
          refine hbb.trans ⟨HG5.out.os, HG5.out.tape, HG5.out.output, HG5.out.size, fun b hb => HG5.out.block b (Nat.lt_of_lt_of_le hb (Nat.le_trans HB4.out.size hbb.size)) (fun e => ?_)⟩
          have hr := HRW.out.2
          rcases hr with ⟨rfl, _⟩ | ⟨gb, cap, cur, rfl, hbase, _⟩
          · cases e
          · cases e
            exact Nat.lt_irrefl _ (Nat.lt_of_lt_of_le hb hbase)
        )
      clear k0 k1 k2 hlm
      obtain ⟨ss', hrow5, hnd5, hsz5, hmem5, hlen5, hbel5⟩ := HNR.out
      have HSO := Lib.hid (sort_row hrow5 (by have := HN.out; have := HFW.out; omega))
      have HD5 := Lib.hid hnd5; have HZ5 := Lib.hid hsz5; have HM5 := Lib.hid hmem5; have HL5 := Lib.hid hlen5; have HE5 := Lib.hid hbel5
      clear hrow5 hnd5 hsz5 hmem5 hlen5 hbel5
      go_wp2_with (go_at_call 38; refine HSO.out.mono ?_; rintro e w6 ⟨rfl, hrow6, row6, hg6, hr6⟩; obtain ⟨nb, ns, hns, hnl, hf6⟩ := frag_start HH.out HBW2.out HCI.out ((HB4.out.trans HE5.out).trans ⟨hg6.os, hg6.tape, hg6.output, hg6.size, fun b hb => hg6.block b (by have := HB4.out.size; have := HE5.out.size; omega) (fun e => by have := hr6 b e.symm; omega)⟩) hrow6 HD5.out HZ5.out HM5.out HL5.out; have HNS := Lib.hid hns; have HF6 := Lib.hid hf6; clear hrow6 hg6 hr6 hns hf6)
      obtain ⟨c0, c1⟩ := tab_cells HF6.out.tab
      have ci6 := HF6.out.idc
      have hnm := HNS.out.size
      obtain ⟨w7, hdel, t7, s7, u7⟩ := del_owner (HF6.out.tab.below (Below.drew (Below.refl _ w6))) HO.out 0
      have HF7 := Lib.hid (fra_step (fra_below HF6.out (Below.drew (Below.refl _ w6))) t7 s7)
      rw [← partG_none] at HF7
      obtain ⟨na, ncap, rfl, hnc, hncm, hnz, hnp⟩ := slc_form HF7.out.slc
      obtain ⟨n, hn⟩ : ∃ n, n = ns.length := ⟨_, rfl⟩
      rw [← hn] at hnl hnc HF7 ⊢
      have HN0 := Lib.hid hn
      unfold maxLen at hncm
      clear t7 s7 u7 hnm hnz hnp hn HF6
      go_still_tail 5, (by kernel_rfl)
      change wpList _ _ _ _ _ w6.drew
      refine wpList_delete_run rfl (.tmp 68) (.tmp 69) _ _ rfl _ _ _ rfl rfl (fun ty => hdel) ?_
      go_wp2
      have HL7 := Lib.hid (frag_lks HH.out HNS.out HC.out HBK.out)
      clear c0 c1 ci6 hdel
      go_loopw [72] (fun i wr => ∃ (j : Nat) (x' : Gh), j ≤ n ∧ i = .int .i64 (j : Int) ∧ Hid (Fra w wr g x N id (partG S id (ns.take j)) x' (.slice na n ncap) nb ns w.heap.size) ∧ Hid (∀ nm ∈ ns, (x'.lk nm).isSome = true)) (fun i _ => n - (intOf i).toNat)
      case atStart => exact ⟨0, _, Nat.zero_le _, rfl, HF7, HL7⟩
      case round =>
        obtain ⟨j, x1, hj, rfl, hf, hl⟩ := hrel
        by_cases hlt : j < n
        · have hnj : j < ns.length := by rw [← HN0.out]; exact hlt
          have hget : ns[j]? = some ns[j] := List.getElem?_eq_getElem hnj
          have htk : ns.take (j + 1) = ns.take j ++ [ns[j]] := by rw [List.take_add_one, hget]; rfl
          have hmem := List.getElem_mem hnj
          have hslc := hf.out.slc
          rw [← HN0.out] at hslc
          obtain ⟨b, off, rfl, hcell⟩ := slc_at hslc (j := j) (u := .string ns[j]) (by rw [List.getElem?_map, hget]; rfl) hlt
          generalize ns[j] = nm at hcell htk hmem
          have hsm := HNS.out.size nm hmem
          obtain ⟨k, hk⟩ := Option.isSome_iff_exists.1 (hl.out nm hmem)
          obtain ⟨c0, -⟩ := tab_cells hf.out.tab
          have hlk := look_lk hf.out.tab.locks hsm
          rw [hk] at hlk
          simp only [Option.map_some, ptr] at hlk
          obtain ⟨k0, -⟩ := lk_cells (hf.out.tab.locks.each nm k hk)
          have ci := hf.out.idc
          obtain ⟨w8, hdel, t8, s8, u8⟩ := del_hold (hf.out.tab.below (Below.drew (Below.refl _ wr))) hk HO.out 0
          have hf8 := fra_step (fra_below hf.out (Below.drew (Below.refl _ wr))) t8 s8
          have h8 := t8.locks.each nm k hk
          obtain ⟨-, k1⟩ := lk_cells h8
          have HD := Lib.hid (deletefunc_any (q := (partG S id (ns.take j)).queue nm) h8.slc rfl hf8.idc (fun e => by have h9 := h8.tq _ e; rw [hf8.co] at h9; cases h9) (once_partG HF.out nm))
          have HW9 : Hid (∀ e w9, Without w8 k.qb ((partG S id (ns.take j)).queue nm) id e w9 → ∃ a n' cp, e = .returned (.slice a n' cp) ∧ (∃ u, w9.cell? ⟨k.b, 1, none⟩ = some u) ∧ w9.frozen? ⟨k.b, 1, none⟩ = false ∧ ∃ x2, Fra w (w9.setCell ⟨k.b, 1, none⟩ (.slice a n' cp)) g x N id (partG S id (ns.take (j + 1))) x2 (.slice (some ⟨b, off, none⟩) n ncap) nb ns w.heap.size ∧ ∀ n', (x1.lk n').isSome = true → (x2.lk n').isSome = true) := Lib.hid (fun e w9 hw9 => by
            rw [htk, ← partG_step]
            exact frag_queue hf8 hk hw9)
          have HF8 := Lib.hid hf8; have HK1 := Lib.hid hk; have HL := hl; have HTK := Lib.hid htk
          clear htk hmem hslc hget hnj hsm hk t8 s8 u8 hf8 h8 hl
          go_wp2
          go_still_tail 5, (by kernel_rfl)
          change wpList _ _ _ _ _ wr.drew
          refine wpList_delete_run rfl (.tmp 85) (.tmp 86) _ _ rfl _ _ _ rfl rfl (fun ty => hdel) ?_
          go_wp2_with (go_at_call 39; refine HD.out.mono ?_; rintro e w9 hw9; obtain ⟨a9, n9, p9, rfl, ⟨u9, hu9⟩, hf9, x9, hF9, hl9⟩ := HW9.out e w9 hw9; have HF9 := Lib.hid hF9; have HL9 := Lib.hid hl9; clear hw9 hF9 hl9)
          go_roundw
          case rel => exact ⟨j + 1, x9, by omega, by go_num, HF9, Lib.hid (fun n' hn' => HL9.out n' (HL.out n' hn'))⟩
          case measure => simp [intOf]; omega
        · have hjn : n = j := by omega
          subst hjn
          have hf1 := hf.out
          rw [List.take_of_length_le (by rw [HN0.out]; exact Nat.le_refl _), partG_all (fun n' hn' => (HNS.out.mem n').2 (want_iff.2 (.inl (by rw [← HC.out]; exact hn')))) (fun n' hn' p hp e => hn' ((HNS.out.mem n').2 (want_iff.2 (.inr (by obtain ⟨po, pm⟩ := p; have h1 := HF.out.waits n' po pm hp; have h2 := queue_modes HH.out n' po pm hp; have e : po = id := e; subst e; rw [h1]; exact ⟨by omega, rfl⟩)))))] at hf1
          have HF1 := Lib.hid hf1
          clear hf1
          go_wp2
          clear hlt
          obtain ⟨iu, RU⟩ := rowU64
          have HRU := Lib.hid RU
          have HF2 : Hid (FroG w wr g x N id S (freedG S id) x1 (.slice na n ncap) nb ns 0 [] (.slice none 0 0) none) := Lib.hid ⟨HF1.out, slc_nil _ _, (fun b e => by cases e), .start, wf_freedG HF.out, hl.out⟩
          clear hf hl RU
          go_loopw [10, 99] (fun vo i wr => ∃ (j : Nat) (S1 : St) (x1 : Gh) (outs : List Nat) (bo : Option Nat), j ≤ n ∧ i = .int .i64 (j : Int) ∧ Hid (FroG w wr g x N id S S1 x1 (.slice na n ncap) nb ns j outs vo bo)) (fun _ i _ => n - (intOf i).toNat)
          case atStart => exact ⟨0, _, x1, [], none, Nat.zero_le _, rfl, HF2⟩
          case round =>
            obtain ⟨j, S1, x2, outs, bo, hj, rfl, hf⟩ := hrel
            by_cases hlt : j < n
            · have hnj : j < ns.length := by rw [← HN0.out]; exact hlt
              have hget : ns[j]? = some ns[j] := List.getElem?_eq_getElem hnj
              have hmem := List.getElem_mem hnj
              have hslc := hf.out.fra.slc
              rw [← HN0.out] at hslc
              obtain ⟨b, off, rfl, hcell⟩ := slc_at hslc (j := j) (u := .string ns[j]) (by rw [List.getElem?_map, hget]; rfl) hlt
              have hdr : ns[j] ∈ ns.drop j := by rw [List.drop_eq_getElem_cons hnj]; exact List.mem_cons_self
              generalize ns[j] = nm at hcell hget hmem hdr
              have hsm := HNS.out.size nm hmem
              obtain ⟨k, hk⟩ := Option.isSome_iff_exists.1 (hf.out.lks nm hdr)
              have HSV := Lib.hid (serve_any hf.out.fra.tab (by have := HN.out; omega) hf.out.wf hsm hk)
              have HGET := Lib.hid hget
              clear hmem hslc hget hnj hsm hk hdr
              go_wp2_with (first
                | (go_at_call 41; refine HSV.out.mono ?_; rintro e w2 ⟨S2, x3, more, v2, bo2, rfl, t2, p2, d2, f2, s2, m2, b2, l2⟩; have HM := Lib.hid (show Tab w2 g S2 x3 N ∧ Path nm S1 S2 more ∧ Done S2 nm ∧ Wf S2 ∧ Steps wr w2 x2 x3 ∧ ∀ n, n ≠ nm → (x2.lk n).isSome = true → (x3.lk n).isSome = true from ⟨t2, p2, d2, f2, s2, l2⟩); have hbd := HB.out _ _ _ (show All (ns.take j ++ [nm]) _ _ _ from .snoc hf.out.all p2 d2); rw [List.length_append] at hbd; have HM2 := Lib.hid m2; have HSO := Lib.hid (slc_turned hf.out.slc s2.turned (fun b e => by rw [(hf.out.bo b e).2.1]; simp)); clear t2 p2 d2 f2 s2 m2 b2 l2)
                | (refine wpList_slc HRU.out rfl (.tmp 103) (.tmp 106) 29 rfl rfl rfl HSO.out (slc_src Try.underlying29 HM2.out) rfl (by unfold maxLen; omega) (by omega) ?_; intro ao3 cap3 bo3 w3 g1 g2 g3; have HF3 := Lib.hid (frog_step hf.out HGET.out HNS.out.sorted HM.out.1 HM.out.2.1 HM.out.2.2.1 HM.out.2.2.2.1 HM.out.2.2.2.2.1 HM.out.2.2.2.2.2 g1 g2 g3); clear g1 g2 g3))
              go_roundw
              case rel => exact ⟨j + 1, _, _, _, bo3, by omega, by go_num, HF3⟩
              case measure => simp [intOf]; omega
            · have hjn : n = j := by omega
              subst hjn
              go_wp2
              rw [← HR.out]
              have hall := hf.out.all
              rw [List.take_of_length_le (by rw [HN0.out]; exact Nat.le_refl _)] at hall
              exact ⟨ns, S1, x2, outs, _, bo, rfl, HNS.out, hall, hf.out.fra.tab, hf.out.fra.steps, hf.out.wf, hf.out.slc, fun b e => ⟨(hf.out.bo b e).1, (hf.out.bo b e).2.1⟩⟩
    · have d2 : ((h0 : Int) == 0) = false := by simp; omega
      go_wp2
      go_quiet (fail)
      have HNR : Hid (NRow w4 (w4.drewN nq) (W2.alloc (.cells #[.map (some kk.hm)] 77)).heap.size S id kk.cnt v) := Lib.hid ⟨ss, row_kept HRW.out (below_drew1 w4 nq), HQ1.out, HQ2.out, fun x => (HQ3.out x).trans ⟨fun h => (HWI.out _).2 (.inl h), fun h => ((HWI.out _).1 h).elim (fun h => h) (fun h => by rw [← h.2, HHH0.out]; exact hd)⟩, by have := HQ4.out; omega, (below_drew1 w4 nq).mono HB4.out.size⟩
      obtain ⟨v5, hv5⟩ : ∃ v5, v5 = v := ⟨_, rfl⟩
      rw [← hv5] at HNR ⊢
      generalize w4.drewN nq = w5 at HNR ⊢
      clear k0 k1 k2 hv5 hlm
      obtain ⟨ss', hrow5, hnd5, hsz5, hmem5, hlen5, hbel5⟩ := HNR.out
      have HSO := Lib.hid (sort_row hrow5 (by have := HN.out; have := HFW.out; omega))
      have HD5 := Lib.hid hnd5; have HZ5 := Lib.hid hsz5; have HM5 := Lib.hid hmem5; have HL5 := Lib.hid hlen5; have HE5 := Lib.hid hbel5
      clear hrow5 hnd5 hsz5 hmem5 hlen5 hbel5
      go_wp2_with (go_at_call 38; refine HSO.out.mono ?_; rintro e w6 ⟨rfl, hrow6, row6, hg6, hr6⟩; obtain ⟨nb, ns, hns, hnl, hf6⟩ := frag_start HH.out HBW2.out HCI.out ((HB4.out.trans HE5.out).trans ⟨hg6.os, hg6.tape, hg6.output, hg6.size, fun b hb => hg6.block b (by have := HB4.out.size; have := HE5.out.size; omega) (fun e => by have := hr6 b e.symm; omega)⟩) hrow6 HD5.out HZ5.out HM5.out HL5.out; have HNS := Lib.hid hns; have HF6 := Lib.hid hf6; clear hrow6 hg6 hr6 hns hf6)
      obtain ⟨c0, c1⟩ := tab_cells HF6.out.tab
      have ci6 := HF6.out.idc
      have hnm := HNS.out.size
      obtain ⟨w7, hdel, t7, s7, u7⟩ := del_owner (HF6.out.tab.below (Below.drew (Below.refl _ w6))) HO.out 0
      have HF7 := Lib.hid (fra_step (fra_below HF6.out (Below.drew (Below.refl _ w6))) t7 s7)
      rw [← partG_none] at HF7
      obtain ⟨na, ncap, rfl, hnc, hncm, hnz, hnp⟩ := slc_form HF7.out.slc
      obtain ⟨n, hn⟩ : ∃ n, n = ns.length := ⟨_, rfl⟩
      rw [← hn] at hnl hnc HF7 ⊢
      have HN0 := Lib.hid hn
      unfold maxLen at hncm
      clear t7 s7 u7 hnm hnz hnp hn HF6
      go_still_tail 5, (by kernel_rfl)
      change wpList _ _ _ _ _ w6.drew
      refine wpList_delete_run rfl (.tmp 68) (.tmp 69) _ _ rfl _ _ _ rfl rfl (fun ty => hdel) ?_
      go_wp2
      have HL7 := Lib.hid (frag_lks HH.out HNS.out HC.out HBK.out)
      clear c0 c1 ci6 hdel
      go_loopw [72] (fun i wr => ∃ (j : Nat) (x' : Gh), j ≤ n ∧ i = .int .i64 (j : Int) ∧ Hid (Fra w wr g x N id (partG S id (ns.take j)) x' (.slice na n ncap) nb ns w.heap.size) ∧ Hid (∀ nm ∈ ns, (x'.lk nm).isSome = true)) (fun i _ => n - (intOf i).toNat)
      case atStart => exact ⟨0, _, Nat.zero_le _, rfl, HF7, HL7⟩
      case round =>
        obtain ⟨j, x1, hj, rfl, hf, hl⟩ := hrel
        by_cases hlt : j < n
        · have hnj : j < ns.length := by rw [← HN0.out]; exact hlt
          have hget : ns[j]? = some ns[j] := List.getElem?_eq_getElem hnj
          have htk : ns.take (j + 1) = ns.take j ++ [ns[j]] := by rw [List.take_add_one, hget]; rfl
          have hmem := List.getElem_mem hnj
          have hslc := hf.out.slc
          rw [← HN0.out] at hslc
          obtain ⟨b, off, rfl, hcell⟩ := slc_at hslc (j := j) (u := .string ns[j]) (by rw [List.getElem?_map, hget]; rfl) hlt
          generalize ns[j] = nm at hcell htk hmem
          have hsm := HNS.out.size nm hmem
          obtain ⟨k, hk⟩ := Option.isSome_iff_exists.1 (hl.out nm hmem)
          obtain ⟨c0, -⟩ := tab_cells hf.out.tab
          have hlk := look_lk hf.out.tab.locks hsm
          rw [hk] at hlk
          simp only [Option.map_some, ptr] at hlk
          obtain ⟨k0, -⟩ := lk_cells (hf.out.tab.locks.each nm k hk)
          have ci := hf.out.idc
          obtain ⟨w8, hdel, t8, s8, u8⟩ := del_hold (hf.out.tab.below (Below.drew (Below.refl _ wr))) hk HO.out 0
          have hf8 := fra_step (fra_below hf.out (Below.drew (Below.refl _ wr))) t8 s8
          have h8 := t8.locks.each nm k hk
          obtain ⟨-, k1⟩ := lk_cells h8
          have HD := Lib.hid (deletefunc_any (q := (partG S id (ns.take j)).queue nm) h8.slc rfl hf8.idc (fun e => by have h9 := h8.tq _ e; rw [hf8.co] at h9; cases h9) (once_partG HF.out nm))
          have HW9 : Hid (∀ e w9, Without w8 k.qb ((partG S id (ns.take j)).queue nm) id e w9 → ∃ a n' cp, e = .returned (.slice a n' cp) ∧ (∃ u, w9.cell? ⟨k.b, 1, none⟩ = some u) ∧ w9.frozen? ⟨k.b, 1, none⟩ = false ∧ ∃ x2, Fra w (w9.setCell ⟨k.b, 1, none⟩ (.slice a n' cp)) g x N id (partG S id (ns.take (j + 1))) x2 (.slice (some ⟨b, off, none⟩) n ncap) nb ns w.heap.size ∧ ∀ n', (x1.lk n').isSome = true → (x2.lk n').isSome = true) := Lib.hid (fun e w9 hw9 => by
            rw [htk, ← partG_step]
            exact frag_queue hf8 hk hw9)
          have HF8 := Lib.hid hf8; have HK1 := Lib.hid hk; have HL := hl; have HTK := Lib.hid htk
          clear htk hmem hslc hget hnj hsm hk t8 s8 u8 hf8 h8 hl
          go_wp2
          go_still_tail 5, (by kernel_rfl)
          change wpList _ _ _ _ _ wr.drew
          refine wpList_delete_run rfl (.tmp 85) (.tmp 86) _ _ rfl _ _ _ rfl rfl (fun ty => hdel) ?_
          go_wp2_with (go_at_call 39; refine HD.out.mono ?_; rintro e w9 hw9; obtain ⟨a9, n9, p9, rfl, ⟨u9, hu9⟩, hf9, x9, hF9, hl9⟩ := HW9.out e w9 hw9; have HF9 := Lib.hid hF9; have HL9 := Lib.hid hl9; clear hw9 hF9 hl9)
          go_roundw
          case rel => exact ⟨j + 1, x9, by omega, by go_num, HF9, Lib.hid (fun n' hn' => HL9.out n' (HL.out n' hn'))⟩
          case measure => simp [intOf]; omega
        · have hjn : n = j := by omega
          subst hjn
          have hf1 := hf.out
          rw [List.take_of_length_le (by rw [HN0.out]; exact Nat.le_refl _), partG_all (fun n' hn' => (HNS.out.mem n').2 (want_iff.2 (.inl (by rw [← HC.out]; exact hn')))) (fun n' hn' p hp e => hn' ((HNS.out.mem n').2 (want_iff.2 (.inr (by obtain ⟨po, pm⟩ := p; have h1 := HF.out.waits n' po pm hp; have h2 := queue_modes HH.out n' po pm hp; have e : po = id := e; subst e; rw [h1]; exact ⟨by omega, rfl⟩)))))] at hf1
          have HF1 := Lib.hid hf1
          clear hf1
          go_wp2
          clear hlt
          obtain ⟨iu, RU⟩ := rowU64
          have HRU := Lib.hid RU
          have HF2 : Hid (FroG w wr g x N id S (freedG S id) x1 (.slice na n ncap) nb ns 0 [] (.slice none 0 0) none) := Lib.hid ⟨HF1.out, slc_nil _ _, (fun b e => by cases e), .start, wf_freedG HF.out, hl.out⟩
          clear hf hl RU
          go_loopw [10, 99] (fun vo i wr => ∃ (j : Nat) (S1 : St) (x1 : Gh) (outs : List Nat) (bo : Option Nat), j ≤ n ∧ i = .int .i64 (j : Int) ∧ Hid (FroG w wr g x N id S S1 x1 (.slice na n ncap) nb ns j outs vo bo)) (fun _ i _ => n - (intOf i).toNat)
          case atStart => exact ⟨0, _, x1, [], none, Nat.zero_le _, rfl, HF2⟩
          case round =>
            obtain ⟨j, S1, x2, outs, bo, hj, rfl, hf⟩ := hrel
            by_cases hlt : j < n
            · have hnj : j < ns.length := by rw [← HN0.out]; exact hlt
              have hget : ns[j]? = some ns[j] := List.getElem?_eq_getElem hnj
              have hmem := List.getElem_mem hnj
              have hslc := hf.out.fra.slc
              rw [← HN0.out] at hslc
              obtain ⟨b, off, rfl, hcell⟩ := slc_at hslc (j := j) (u := .string ns[j]) (by rw [List.getElem?_map, hget]; rfl) hlt
              have hdr : ns[j] ∈ ns.drop j := by rw [List.drop_eq_getElem_cons hnj]; exact List.mem_cons_self
              generalize ns[j] = nm at hcell hget hmem hdr
              have hsm := HNS.out.size nm hmem
              obtain ⟨k, hk⟩ := Option.isSome_iff_exists.1 (hf.out.lks nm hdr)
              have HSV := Lib.hid (serve_any hf.out.fra.tab (by have := HN.out; omega) hf.out.wf hsm hk)
              have HGET := Lib.hid hget
              clear hmem hslc hget hnj hsm hk hdr
              go_wp2_with (first
                | (go_at_call 41; refine HSV.out.mono ?_; rintro e w2 ⟨S2, x3, more, v2, bo2, rfl, t2, p2, d2, f2, s2, m2, b2, l2⟩; have HM := Lib.hid (show Tab w2 g S2 x3 N ∧ Path nm S1 S2 more ∧ Done S2 nm ∧ Wf S2 ∧ Steps wr w2 x2 x3 ∧ ∀ n, n ≠ nm → (x2.lk n).isSome = true → (x3.lk n).isSome = true from ⟨t2, p2, d2, f2, s2, l2⟩); have hbd := HB.out _ _ _ (show All (ns.take j ++ [nm]) _ _ _ from .snoc hf.out.all p2 d2); rw [List.length_append] at hbd; have HM2 := Lib.hid m2; have HSO := Lib.hid (slc_turned hf.out.slc s2.turned (fun b e => by rw [(hf.out.bo b e).2.1]; simp)); clear t2 p2 d2 f2 s2 m2 b2 l2)
                | (refine wpList_slc HRU.out rfl (.tmp 103) (.tmp 106) 29 rfl rfl rfl HSO.out (slc_src Try.underlying29 HM2.out) rfl (by unfold maxLen; omega) (by omega) ?_; intro ao3 cap3 bo3 w3 g1 g2 g3; have HF3 := Lib.hid (frog_step hf.out HGET.out HNS.out.sorted HM.out.1 HM.out.2.1 HM.out.2.2.1 HM.out.2.2.2.1 HM.out.2.2.2.2.1 HM.out.2.2.2.2.2 g1 g2 g3); clear g1 g2 g3))
              go_roundw
              case rel => exact ⟨j + 1, _, _, _, bo3, by omega, by go_num, HF3⟩
              case measure => simp [intOf]; omega
            · have hjn : n = j := by omega
              subst hjn
              go_wp2
              rw [← HR.out]
              have hall := hf.out.all
              rw [List.take_of_length_le (by rw [HN0.out]; exact Nat.le_refl _)] at hall
              exact ⟨ns, S1, x2, outs, _, bo, rfl, HNS.out, hall, hf.out.fra.tab, hf.out.fra.steps, hf.out.wf, hf.out.slc, fun b e => ⟨(hf.out.bo b e).1, (hf.out.bo b e).2.1⟩⟩
end Go.Proofs.Ythanjncpgcmnaaa

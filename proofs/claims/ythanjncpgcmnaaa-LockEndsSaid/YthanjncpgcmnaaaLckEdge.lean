/- For whom one waits. -/
import Derived.Test.YthanjncpgcmnaaaLckTell
namespace Go.Proofs.Ythanjncpgcmnaaa
open Go.ChangeShapes Go.WideShapes Go.ChangeAt Go.RowKit

/-- Who stands ahead of one in a queue. -/
def ahead (q : List (Nat × Nat)) (id : Nat) : List Nat := (q.map (·.1)).takeWhile (fun o => decide (o ≠ id))
/-- One waits for another. -/
def Edge (S : St) (id o : Nat) : Prop := (S.waits id).2 ≠ 0 ∧ ((o ≠ id ∧ S.hold (S.waits id).1 o ≠ 0 ∧ tog ((S.waits id).2 : Nat) (S.hold (S.waits id).1 o) = false) ∨ o ∈ ahead (S.queue (S.waits id).1) id)
theorem ahead_of {q : List (Nat × Nat)} {id j : Nat} (h : ∀ p ∈ q.take j, p.1 ≠ id) (hj : q.length ≤ j ∨ ∃ p, q[j]? = some p ∧ p.1 = id) : ahead q id = (q.take j).map (·.1) := by
  induction q generalizing j with
  | nil => simp [ahead]
  | cons p r ih =>
    cases j with
    | zero =>
      rcases hj with hj | ⟨p', hp, e⟩
      · simp at hj
      · simp at hp; subst hp; simp [ahead, e]
    | succ j =>
      have h1 : p.1 ≠ id := h p (by simp)
      have := ih (j := j) (fun p hp => h p (by simp [hp])) (by
        rcases hj with hj | ⟨p', hp, e⟩
        · left; simp at hj; exact hj
        · right; exact ⟨p', by simpa using hp, e⟩)
      unfold ahead at this ⊢
      simp only [List.map_cons, List.take_succ_cons]
      rw [List.takeWhile_cons_of_pos (by simpa using h1), this]
/-- Whom one meets among the holders, so far. -/
structure Meets (f : Nat → Nat) (id m : Nat) (left : Lit → Bool) (os : List Nat) : Prop where
  only : ∀ o ∈ os, o ≠ id ∧ f o ≠ 0 ∧ tog (m : Int) (f o) = false
  all : ∀ a, a ≠ id → f a ≠ 0 → tog (m : Int) (f a) = false → left (kU a) = false → a ∈ os
  nd : os.Nodup
  gone : ∀ o ∈ os, left (kU o) = false
theorem meets_skip {f : Nat → Nat} {id m : Nat} {left : Lit → Bool} {os : List Nat} (h : Meets f id m left os) {c : Nat} (hc : c = id ∨ tog (m : Int) (f c) = true) : Meets f id m (fun z => left z && !z.sameKey (kU c)) os where
  only := h.only
  all := fun a ha h0 ht hl => by
    by_cases e : a = c
    · subst e
      rcases hc with hc | hc
      · exact absurd hc ha
      · rw [hc] at ht; cases ht
    · refine h.all a ha h0 ht ?_
      have : Lit.sameKey (kU a) (kU c) = false := Maps.sameKey_ne (fun e' => e (kU_inj e'))
      simpa [this] using hl
  nd := h.nd
  gone := fun o ho => by simp [h.gone o ho]
theorem meets_one {f : Nat → Nat} {id m : Nat} {left : Lit → Bool} {os : List Nat} (h : Meets f id m left os) {c : Nat} (hlc : left (kU c) = true) (h1 : c ≠ id) (h2 : f c ≠ 0) (h3 : tog (m : Int) (f c) = false) : Meets f id m (fun z => left z && !z.sameKey (kU c)) (os ++ [c]) where
  only := fun o ho => by
    rcases List.mem_append.1 ho with ho | ho
    · exact h.only o ho
    · rw [List.mem_singleton] at ho; subst ho; exact ⟨h1, h2, h3⟩
  all := fun a ha h0 ht hl => by
    by_cases e : a = c
    · subst e; simp
    · have : Lit.sameKey (kU a) (kU c) = false := Maps.sameKey_ne (fun e' => e (kU_inj e'))
      exact List.mem_append.2 (.inl (h.all a ha h0 ht (by simpa [this] using hl)))
  nd := by
    rw [List.nodup_append]
    refine ⟨h.nd, by simp, fun a ha b hb e => ?_⟩
    rw [List.mem_singleton] at hb
    subst hb e
    rw [h.gone _ ha] at hlc; cases hlc
  gone := fun o ho => by
    rcases List.mem_append.1 ho with ho | ho
    · simp [h.gone o ho]
    · rw [List.mem_singleton] at ho; subst ho
      simp [kU, Lit.sameKey]
theorem nodup_count {l : List Nat} (h : l.Nodup) (u : Nat) : l.count u ≤ 1 := List.nodup_iff_count.1 h u
theorem count_two {os : List Nat} {q : List (Nat × Nat)} {j : Nat} (h : os.Nodup) (hq : (q.map (·.1)).Nodup) (u : Nat) : (os ++ (q.take j).map (·.1)).count u ≤ 2 := by
  rw [List.count_append]
  have h1 := nodup_count h u
  have h2 := nodup_count (l := (q.take j).map (·.1)) (by rw [List.map_take]; exact hq.sublist (List.take_sublist _ _)) u
  omega
def EdgeTells (W : World) (S : St) (N id : Nat) (e : Ending) (w' : World) : Prop := ∃ os v bo, e = .returned v ∧ Qut W w' bo v os ∧ (∀ o, o ∈ os ↔ Edge S id o) ∧ os.length ≤ 2 * N ∧ ∀ u, os.count u ≤ 2
theorem qut_from {W W' w : World} {bo : Option Nat} {v : Value} {l : List Nat} (h : Qut W' w bo v l) (hb : Below W.heap.size W W') : Qut W w bo v l :=
  ⟨h.slc, hb.trans (h.below.mono hb.size), fun b e => Nat.le_trans hb.size (h.bo b e)⟩
theorem edge_end {f : Nat → Nat} {id m j : Nat} {left : Lit → Bool} {os : List Nat} {q : List (Nat × Nat)} (h : Meets f id m left os) (hl : ∀ z, left z = false) (h1 : ∀ p ∈ q.take j, p.1 ≠ id) (h2 : q.length ≤ j ∨ ∃ p, q[j]? = some p ∧ p.1 = id) (o : Nat) :
    o ∈ os ++ (q.take j).map (·.1) ↔ (o ≠ id ∧ f o ≠ 0 ∧ tog (m : Nat) (f o) = false) ∨ o ∈ ahead q id := by
  rw [← ahead_of h1 h2, List.mem_append]
  constructor
  · rintro (h' | h')
    · exact .inl (h.only o h')
    · exact .inr h'
  · rintro (h' | h')
    · exact .inl (h.all o h'.1 h'.2.1 h'.2.2 (hl _))
    · exact .inr h'
theorem qut_next {W w w' : World} {bo : Option Nat} {v : Value} {l : List Nat} {r : Nat} (h : Qut W w bo v l) (hb : Below W.heap.size w w') (hk : ∀ b, b < w.heap.size → b ≠ r → w'.heap[b]? = w.heap[b]?) (hr : bo ≠ some r) : Qut W w' bo v l :=
  ⟨slc_kept h.slc hb.size (fun b e => hk b (slc_lt h.slc b e) (fun e' => hr (by rw [e, e']))), h.below.trans hb, h.bo⟩
set_option maxRecDepth 100000 in
set_option maxHeartbeats 4000000 in
theorem waitsfor_any {w : World} {g : Nat} {S : St} {x : Gh} {N : Nat} (H : Tab w g S x N) (hN : N < 8796093022208) {id : Nat} (ho : id < top) (hk : (S.waits id).2 ≠ 0 → ∃ k, x.lk (S.waits id).1 = some k) (hnd : ∀ n, ((S.queue n).map (·.1)).Nodup) :
    Calls Try.prog 45 #[.pointer (some ⟨g, 0, none⟩), .int .u64 (id : Int)] w (EdgeTells w S N id) := by
  obtain ⟨c0, c1⟩ := tab_cells H
  have HW := waiting_any H ho
  have hl := look_ow H.owners ho
  generalize hR : EdgeTells w S N id = R
  have HR := Lib.hid hR
  by_cases h0 : (S.waits id).2 = 0
  · rw [decide_eq_false (fun h => h h0)] at HW
    have HW' := Lib.hid HW
    have HX : Hid (EdgeTells w S N id (.returned (.slice none 0 0)) w) := Lib.hid ⟨[], _, none, rfl, ⟨slc_nil _ _, Below.refl _ _, fun b e => by cases e⟩, fun o => by simp [Edge, h0], by simp, by simp⟩
    clear hR H HW hl c0 c1 ho h0 hk hN hnd
    go_enter Try.func45, Try.ntmps45
    go_wp2_with (go_at_call 28; refine HW'.out.mono ?_; rintro e w' ⟨rfl, rfl⟩)
    rw [← HR.out]
    exact HX.out
  · rw [decide_eq_true h0] at HW
    have HW' := Lib.hid HW
    obtain ⟨k, hkk⟩ := hk h0
    clear hk
    have hk := hkk
    clear hkk
    cases hw : x.ow id with
    | none => exact absurd (by rw [(H.owners.none id hw).2]) h0
    | some kk =>
      obtain ⟨k0, k1, k2, -⟩ := ow_cells (H.owners.each id kk hw)
      have hwt := (H.owners.each id kk hw).wt
      rw [hw] at hl
      simp only [Option.map_some, ptr] at hl
      have HED : Hid (∀ o, Edge S id o ↔ ((o ≠ id ∧ S.hold (S.waits id).1 o ≠ 0 ∧ tog ((S.waits id).2 : Nat) (S.hold (S.waits id).1 o) = false) ∨ o ∈ ahead (S.queue (S.waits id).1) id)) := Lib.hid (fun o => ⟨fun h => h.2, fun h => ⟨h0, h⟩⟩)
      have hnd' := hnd (S.waits id).1
      clear hnd
      generalize (S.waits id).1 = nm at *
      generalize (S.waits id).2 = m at *
      have hn : nm.size ≤ maxLen := by first | exact hwt.1 | exact hwt.2
      have hb1 := below_alloc w (.cells #[.string nm, .int .i64 (m : Int)] 35)
      have H1 := Lib.hid (H.below hb1)
      obtain ⟨d0, -⟩ := tab_cells H1.out
      have HB1 := Lib.hid hb1
      have f0 : (w.alloc (.cells #[.string nm, .int .i64 (m : Int)] 35)).cell? ⟨w.heap.size, 0, none⟩ = some (.string nm) := (cell_of_row _ _ 0 _ _ _ (cells_new w 35 _)).trans rfl
      have f1 : (w.alloc (.cells #[.string nm, .int .i64 (m : Int)] 35)).cell? ⟨w.heap.size, 1, none⟩ = some (.int .i64 (m : Int)) := (cell_of_row _ _ 1 _ _ _ (cells_new w 35 _)).trans rfl
      have hlk : ∀ n, (Instr.lookup 57 (.map (some x.lm)) (.string nm) false).run Try.prog ((w.alloc (.cells #[.string nm, .int .i64 (m : Int)] 35)).drewN n) = .ok (.pointer (some ⟨k.b, 0, none⟩)) ((w.alloc (.cells #[.string nm, .int .i64 (m : Int)] 35)).drewN n) := fun n => by
        have := look_lk (H1.out.below (below_drew1 _ n)).locks hn
        rw [hk] at this
        exact this
      have hgs : g < w.heap.size := cells_lt H.cells
      have HK := Lib.hid hk
      have HNN := Lib.hid hN
      have HF1 := Lib.hid f1
      clear hR H HW ho h0 hk hw hwt hb1 hN k0 hn
      go_enter Try.func45, Try.ntmps45
      go_wp2_with (go_at_call 28; refine HW'.out.mono ?_; rintro e w' ⟨rfl, rfl⟩)
      go_quiet (fail)
      have hb2 : Below w.heap.size w ((w.alloc (.cells #[.string nm, .int .i64 (m : Int)] 35)).drewN nq) := below_drewN HB1.out nq
      have H2 := H1.out.below (below_drew1 _ nq)
      have f2 : ((w.alloc (.cells #[.string nm, .int .i64 (m : Int)] 35)).drewN nq).cell? ⟨w.heap.size, 1, none⟩ = some (.int .i64 (m : Int)) := HF1.out
      clear d0 f0 f1 hlk c0 c1 hl k1 k2
      generalize (w.alloc (.cells #[.string nm, .int .i64 (m : Int)] 35)).drewN nq = W2 at hb2 H2 f2 ⊢
      have h := H2.locks.each nm k HK.out
      obtain ⟨k0, -⟩ := lk_cells h
      obtain ⟨D, hown, hat⟩ := h.own.ex
      have hDs : Maps.size D ≤ k.cnt := hown.size_le
      have hfew := h.few
      have hsl := h.slc
      generalize hqq : S.queue nm = q at hfew HED hsl hnd'
      have HND := Lib.hid hnd'
      clear hnd'
      obtain ⟨n, hnq⟩ : ∃ n, n = q.length := ⟨_, rfl⟩
      rw [← hnq] at hsl hfew
      obtain ⟨ao, cap, hv, -, hcap, -⟩ := slc_form hsl
      rw [hv] at hsl
      unfold maxLen at hcap
      obtain ⟨-, kq⟩ := lk_cells h
      rw [hv] at kq
      have HQ := Lib.hid hsl; have HNQ := Lib.hid hnq; have HKQ := Lib.hid kq
      have hnb : k.cnt < 8796093022208 ∧ k.cnt + n < 8796093022208 := by have := HNN.out; omega
      generalize hh : S.hold nm = f at h HED
      rw [hh] at hat
      have HF : Hid (∀ a : Nat, a < top → ∀ z, D.atKey (kU a) z = (modes f a).getD z) := Lib.hid hat
      have HO := Lib.hid hown
      have HT := Lib.hid tog_any
      have HL : Hid (∀ a, f a ≠ 0 → a < top) := Lib.hid h.lt
      have hhm : k.hm < W2.heap.size := hown.lt
      obtain ⟨iu, RU⟩ := rowU64
      have HRU := Lib.hid RU
      have H2' := Lib.hid H2; have HB2 := Lib.hid hb2; have HF2 := Lib.hid f2
      clear h hat hown H2 hb2 RU hh hsl hqq hnq hv kq
      go_wp2_with (at_range; refine wpList_range_own _ rfl _ 66 rfl 27 3 keysU Try.underlying66 _ k.hm k.cnt D rfl HO.out ?_; intro w3 hrg0 hg0 hs0)
      have hb3 : Below W2.heap.size W2 w3 := ⟨hg0.os, hg0.tape, hg0.output, hg0.size, fun b hb => hg0.block b hb (by simp)⟩
      have HB3 := Lib.hid hb3; have HR0 := Lib.hid hrg0; have HS0 := Lib.hid hs0
      clear hg0 hs0 hb3 hrg0 f2
      go_frame
      go_loopw [7, 8, 9] (fun v _ _ wr => ∃ (left : Lit → Bool) (cnt : Nat) (os : List Nat) (bo : Option Nat), Hid (wr.ranges Try.prog 27 (plainElem Try.prog 3) k.hm W2.heap.size k.cnt D left cnt) ∧ Hid (Meets f id m left os) ∧ Hid (Qut W2 wr bo v os) ∧ Hid (bo ≠ some W2.heap.size) ∧ os.length + cnt ≤ k.cnt) (fun _ _ _ wr => wr.rangeLeft k.hm W2.heap.size)
      case atStart => exact ⟨_, _, [], none, HR0, Lib.hid (Meets.mk (fun o ho => (by cases ho)) (fun a ha h0 _ hl => by
        exfalso
        have h1 : Maps.has D (kU a) = true := Maps.has_true_of_atKey (y := .lit (.int .i64 (f a : Int))) (fun z => by rw [HF.out a (HL.out a h0)]; simp [modes, h0])
        rw [h1] at hl; cases hl) List.nodup_nil (fun o ho => (by cases ho))), Lib.hid ⟨slc_nil _ _, HB3.out, fun b e => (by cases e)⟩, Lib.hid (by simp), by simpa using hDs⟩
      case round =>
        obtain ⟨left, cnt, os, bo, hr, hse, hq, hbo, hcnt⟩ := hrel
        go_wp2_with (at_next; refine wpList_next_ranges_ii _ rfl _ rfl 27 3 .u64 .i64 keysU Try.underlying27 Try.underlying3 k.hm W2.heap.size k.cnt D left cnt rfl hr.out ?_ ?_)
        · intro _ hl0
          have HLL := Lib.hid hl0
          clear hl0
          have kq : wr.cell? ⟨k.b, 1, none⟩ = some (.slice ao n cap) := (hq.out.below.cell (World.block_lt_of_cell? W2 _ HKQ.out)).trans HKQ.out
          go_wp2
          clear kq
          go_loopw [7, 61] (fun v i wq => ∃ (j : Nat) (bo : Option Nat), j ≤ n ∧ i = .int .i64 (j : Int) ∧ Hid (Qut W2 wq bo v (os ++ (q.take j).map (·.1))) ∧ Hid (∀ p ∈ q.take j, p.1 ≠ id)) (fun _ i _ => n - (intOf i).toNat)
          case atStart => exact ⟨0, bo, Nat.zero_le _, rfl, by simpa using hq, Lib.hid (by simp)⟩
          case round =>
            obtain ⟨j, bo, hj, rfl, ho, hne⟩ := hrel
            by_cases hlt : j < n
            · have hjq : j < q.length := by rw [← HNQ.out]; exact hlt
              have hp : q[j]? = some q[j] := List.getElem?_eq_getElem hjq
              have htk : q.take (j + 1) = q.take j ++ [q[j]] := by rw [List.take_add_one, hp]; rfl
              have hlen : (os ++ (q.take j).map (·.1)).length = os.length + j := by rw [List.length_append, List.length_map, List.length_take]; omega
              have hs := slc_below HQ.out ho.out.below
              obtain ⟨_, _, ⟨_, _, hz0⟩ | ⟨b, off, cap', hqb, e, _, _, _, hx, _⟩⟩ := _root_.id hs
              · omega
              cases e
              obtain ⟨x0, x1⟩ := qcell_at q j q[j] hp
              have f0 : wr.cell? ⟨b, off + j * 2, none⟩ = _ := hx _ _ x0
              have f1 : wr.cell? ⟨b, off + j * 2 + 1, none⟩ = _ := hx _ _ x1
              generalize q[j] = pp at f0 f1 htk hp
              obtain ⟨po, pm⟩ := pp
              simp only at f0 f1 htk
              have HTK := Lib.hid htk; have HP := Lib.hid hp; have HLN := Lib.hid hlen
              by_cases e : po = id
              · subst e
                have HX : Hid (EdgeTells w S N po (.returned u7) (wr.alloc (.cells #[.int .u64 (po : Int), .int .i64 (pm : Int)] 74))) := Lib.hid ⟨_, _, bo, rfl, qut_from (qut_below ho.out (below_alloc _ _)) HB2.out, fun o => (edge_end hse.out HLL.out hne.out (.inr ⟨_, hp, rfl⟩) o).trans (HED.out o).symm, by rw [hlen]; omega, count_two hse.out.nd HND.out⟩
                clear hp htk hlen hs x0 x1 hx hjq
                go_wp2
                rw [← HR.out]
                exact HX.out
              · have d : ((po : Int) == (id : Int)) = false := by simp; omega
                have HE := Lib.hid e
                have HO1 := Lib.hid (qut_below ho.out ((below_alloc wr (.cells #[.int .u64 (po : Int), .int .i64 (pm : Int)] 74)).trans ((below_alloc _ (.cells #[.int .u64 (po : Int)] 27)).mono (by rw [size_alloc]; omega))))
                have hso := HO1.out.slc
                rw [hlen] at hso
                have HSO := Lib.hid hso
                have hsrc := (u64_src (w := (wr.alloc (.cells #[.int .u64 (po : Int), .int .i64 (pm : Int)] 74)).alloc (.cells #[.int .u64 (po : Int)] 27)) ((cell_of_row _ _ 0 _ _ _ (cells_new (wr.alloc (.cells #[.int .u64 (po : Int), .int .i64 (pm : Int)] 74)) 27 #[.int .u64 (po : Int)])).trans rfl))
                rw [size_alloc] at hsrc
                have HSRC := Lib.hid hsrc
                clear hp htk hlen hs x0 x1 hx hjq hsrc hso e
                go_wp2_with (refine wpList_slc HRU.out rfl (.tmp 69) (.tmp 72) 29 rfl rfl rfl HSO.out HSRC.out rfl (by unfold maxLen; omega) (by omega) ?_; intro ao3 cap3 bo3 w5 g1 g2 g3; have HO3 := Lib.hid (qut_step HO1.out (by rw [HLN.out]) g1 g2 g3); clear g1 g2 g3)
                go_roundw
                case rel => exact ⟨j + 1, bo3, by omega, by go_num, by rw [HTK.out, List.map_append, ← List.append_assoc]; exact HO3, Lib.hid (fun p hp => by
                  rw [HTK.out] at hp
                  rcases List.mem_append.1 hp with hp | hp
                  · exact hne.out p hp
                  · rw [List.mem_singleton] at hp; subst hp; exact HE.out)⟩
                case measure => simp [intOf]; omega
            · have hjn : n = j := by omega
              subst hjn
              have HX : Hid (EdgeTells w S N id (.returned u7) wr) := Lib.hid ⟨_, _, bo, rfl, qut_from ho.out HB2.out, fun o => (edge_end hse.out HLL.out hne.out (.inl (by rw [HNQ.out]; exact Nat.le_refl _)) o).trans (HED.out o).symm, by rw [List.length_append, List.length_map, List.length_take]; omega, count_two hse.out.nd HND.out⟩
              go_wp2
              rw [← HR.out]
              exact HX.out
        · intro y c w1 cnt1 hwy hwc hly hac hrg1 hlt hg1 hs1 hen
          have hb1 : Below W2.heap.size wr w1 := ⟨hg1.os, hg1.tape, hg1.output, hg1.size, fun b hb => hg1.block b (Nat.lt_of_lt_of_le hb hq.out.below.size) (fun e => by cases e; exact Nat.lt_irrefl _ hb)⟩
          have hq1 := qut_next hq.out hb1 (fun b hb hne => hg1.block b hb (fun e => hne (by cases e; rfl))) hbo.out
          have hyb := bounds_u64 hwy
          obtain ⟨y', rfl⟩ : ∃ y' : Nat, y = (y' : Int) := ⟨y.toNat, by omega⟩
          have hz := HF.out y' (by show y' < top; unfold top; omega)
          have hcf : c = (f y' : Int) ∧ f y' ≠ 0 := by
            have e1 := (hac (.held (.bool true))).symm.trans (hz (.held (.bool true)))
            unfold modes at e1
            split at e1
            · cases e1
            · rename_i h0
              simp only [Option.getD_some, DataW.lit.injEq, Lit.int.injEq, true_and] at e1
              exact ⟨e1, h0⟩
          obtain ⟨rfl, hf0⟩ := hcf
          have g5 : w1.cell? ⟨w.heap.size, 1, none⟩ = some (.int .i64 (m : Int)) := (hq1.below.cell (World.block_lt_of_cell? W2 _ HF2.out)).trans HF2.out
          have HQ1 := Lib.hid hq1; have HG1 := Lib.hid hrg1; have HF0 := Lib.hid hf0; have HLT := Lib.hid hlt; have HS1 := Lib.hid hs1; have HLY := Lib.hid hly
          clear hb1 hrg1 hf0 hs1 hz hac hg1 hwy hwc hly hq1
          by_cases e : y' = id
          · subst e
            clear hlt
            go_wp2
            go_roundw
            case rel => exact ⟨_, cnt1, os, bo, HG1, Lib.hid (meets_skip hse.out (.inl rfl)), HQ1, hbo, by have := HLT.out; omega⟩
            case measure => rw [HG1.out.left_eq, hr.out.left_eq]; exact HLT.out
          · have hne : ((y' : Int) != (id : Int)) = true := by simp; omega
            by_cases ht : tog (m : Int) (f y') = true
            · have HTT := Lib.hid ht
              clear ht e hlt
              go_wp2_with (go_at_call 20; refine (HT.out _ _ _).mono ?_; rintro e w' ⟨rfl, hb⟩; have HB := Lib.hid hb; clear hb; rw [HTT.out])
              have HG2 := Lib.hid (HG1.out.kept (row := none) ⟨HB.out.os, HB.out.tape, HB.out.output, HB.out.size, fun b hb _ => HB.out.block b hb⟩ (by simp) (by simp))
              go_roundw
              case rel => exact ⟨_, cnt1, os, bo, HG2, Lib.hid (meets_skip hse.out (.inr HTT.out)), Lib.hid (qut_below HQ1.out HB.out), hbo, by have := HLT.out; omega⟩
              case measure => rw [HG2.out.left_eq, hr.out.left_eq]; exact HLT.out
            · have HTT : Hid (tog (m : Int) (f y') = false) := Lib.hid (by simpa using ht)
              have HNE := Lib.hid e
              clear ht e
              have hlq : os.length + 1 ≤ k.cnt := by omega
              go_wp2_with (first
                | (go_at_call 20; refine (HT.out _ _ _).mono ?_; rintro e w' ⟨rfl, hb⟩; have HB := Lib.hid hb; clear hb; rw [HTT.out]; have hq2 := qut_below (qut_below HQ1.out HB.out) (below_alloc w' (.cells #[.int .u64 (y' : Int)] 27)); have HQ2 := Lib.hid hq2; clear hq2; have HG2 := Lib.hid ((HG1.out.kept (row := none) ⟨HB.out.os, HB.out.tape, HB.out.output, HB.out.size, fun b hb _ => HB.out.block b hb⟩ (by simp) (by simp)).alloc (.cells #[.int .u64 (y' : Int)] 27)))
                | (refine wpList_slc HRU.out rfl (.tmp 52) (.tmp 54) 29 rfl rfl rfl HQ2.out.slc (u64_src ((cell_of_row _ _ 0 _ _ _ (cells_new w' 27 #[.int .u64 (y' : Int)])).trans rfl)) rfl (by unfold maxLen; omega) (by omega) ?_; intro ao3 cap3 bo3 w5 g1 g2 g3; have HQ3 := Lib.hid (qut_step HQ2.out rfl g1 g2 g3); have HBO := Lib.hid (show bo3 ≠ some W2.heap.size from fun e => by
                    rcases g3 with g3 | g3
                    · exact hbo.out (g3 ▸ e)
                    · rw [g3] at e
                      have h1 := HG2.out.lt
                      simp only [Option.some.injEq] at e; omega); have HG3 := Lib.hid (HG2.out.kept (row := bo) ⟨g2.os, g2.tape, g2.output, g2.size, fun b hb hne => g2.block b hb (fun e => hne e.symm)⟩ (fun e => by have h1 := HQ1.out.bo _ e.symm; omega) (fun e => hbo.out e.symm)); clear g1 g2 g3))
              go_roundw
              case rel => exact ⟨_, cnt1, os ++ [y'], bo3, HG3, Lib.hid (meets_one hse.out HLY.out HNE.out HF0.out HTT.out), HQ3, HBO, by have := HLT.out; rw [List.length_append, List.length_singleton]; omega⟩
              case measure => rw [HG3.out.left_eq, hr.out.left_eq]; exact HLT.out
end Go.Proofs.Ythanjncpgcmnaaa

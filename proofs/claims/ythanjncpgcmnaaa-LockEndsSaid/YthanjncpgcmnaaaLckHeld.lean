/- All that an owner holds. -/
import Derived.Test.YthanjncpgcmnaaaLckIter
import Derived.Laws.MakeOwn
namespace Go.Proofs.Ythanjncpgcmnaaa
open Go.ChangeShapes Go.WideShapes Go.ChangeAt Go.RowKit

theorem info35 : (Try.prog.info? 35).map (fun i => (i.zero, i.size, i.bytes)) = some (some (.agg #[.string ⟨#[]⟩, .int .i64 0]), 2, 24) := by kernel_rfl
theorem rowGrant : ∃ i, Rowy Try.prog 32 35 i (.agg #[.string ⟨#[]⟩, .int .i64 0]) 2 24 := by
  obtain ⟨i, hi, hz0, hz1, hz2⟩ := info_parts info35
  exact ⟨i, Try.underlying32, hi, hz0, hz1, hz2, rfl⟩
/-- Names with their modes, as cells. -/
def gcells (f : ByteArray → Nat) (ns : List ByteArray) : List Value := ns.flatMap fun nm => [.string nm, .int .i64 (f nm : Int)]
theorem gcells_snoc (f : ByteArray → Nat) (ns : List ByteArray) (nm : ByteArray) : gcells f (ns ++ [nm]) = gcells f ns ++ [.string nm, .int .i64 (f nm : Int)] := by rw [gcells, List.flatMap_append]; rfl
theorem grant_src {w : World} {g : Nat} {nm : ByteArray} {m : Int} (h : w.cell? ⟨g, 0, none⟩ = some (.string nm)) (h' : w.cell? ⟨g, 1, none⟩ = some (.int .i64 m)) : _root_.Go.Src Try.prog 2 32 (.slice (some ⟨g, 0, none⟩) 1 1) 1 [.string nm, .int .i64 m] w :=
  _root_.Go.Src.ofSlice w Try.underlying32 ⟨g, 0, none⟩ 1 1 _ rfl (fun j u hu => by
    have e : ∀ j, (⟨g, 0, none⟩ : Addr).add j = ⟨g, j, none⟩ := fun j => by unfold Addr.add; split <;> simp_all
    rw [e]
    match j, hu with
    | 0, hu => cases hu; exact h
    | 1, hu => cases hu; exact h') (fun u hu => by simp at hu; rcases hu with rfl | rfl <;> rfl)
/-- What Held tells. -/
def HeldTells (w : World) (f : ByteArray → Nat) (e : Ending) (w' : World) : Prop :=
  ∃ v bo ns, e = .returned v ∧ Names f ns ∧ Slc w' bo 2 v ns.length (gcells f ns) ∧ Below w.heap.size w w' ∧ ∀ b, bo = some b → w.heap.size ≤ b
theorem names_nil {f : ByteArray → Nat} (h : ∀ n, f n = 0) : Names f [] := ⟨List.Pairwise.nil, fun nm => ⟨(fun h' => by cases h'), fun h' => absurd (h nm) h'⟩, fun nm h' => by cases h'⟩
/-- So far: what was put out. -/
structure Out (W w w4 : World) (nb bo : Option Nat) (v : Value) (l : List Value) (n : Nat) : Prop where
  slc : Slc w bo 2 v n l
  below : Below W.heap.size W w
  bo : ∀ b, bo = some b → W.heap.size ≤ b ∧ nb ≠ some b
  nb : ∀ b, nb = some b → b < w4.heap.size ∧ w.heap[b]? = w4.heap[b]?
  size : w4.heap.size ≤ w.heap.size
theorem out_step {W w w4 w5 : World} {nb bo bo' : Option Nat} {v v' : Value} {l l' : List Value} {n n' : Nat} {cs : Array Value} {t : TypeId} (h : Out W w w4 nb bo v l n) (h1 : Slc w5 bo' 2 v' n' l') (h2 : Turned (fun k => bo = some k) (w.alloc (.cells cs t)) w5) (h3 : bo' = bo ∨ bo' = some (w.alloc (.cells cs t)).heap.size) : Out W w5 w4 nb bo' v' l' n' := by
  have hs := size_alloc w (.cells cs t)
  have hsz := h.size
  have hbs := h.below.size
  refine ⟨h1, Turned.to_below (h.below.trans ((below_alloc w _).mono hbs)) h2 (fun k hk => (h.bo k hk).1) (by omega), fun b e => ?_, fun b e => ?_, by have := h2.size; omega⟩
  · rcases h3 with h3 | h3
    · exact h.bo b (h3 ▸ e)
    · rw [h3] at e
      cases e
      refine ⟨by omega, fun e' => ?_⟩
      have := (h.nb _ e').1; omega
  · obtain ⟨a1, a2⟩ := h.nb b e
    refine ⟨a1, (h2.block b (by omega) (fun e' => (h.bo b e').2 e)).trans (((below_alloc w _).block b (by omega)).trans a2)⟩
set_option maxRecDepth 100000 in
set_option maxHeartbeats 2000000 in
theorem held_any {w : World} {g : Nat} {S : St} {x : Gh} {N : Nat} (H : Tab w g S x N) (hN : N < 5000000000000) {o : Nat} (ho : o < top) :
    Calls Try.prog 17 #[.pointer (some ⟨g, 0, none⟩), .int .u64 (o : Int)] w (HeldTells w (S.held o)) := by
  obtain ⟨c0, c1⟩ := tab_cells H
  have hl := look_ow H.owners ho
  cases hw : x.ow o with
  | none =>
    have HW := Lib.hid (H.owners.none o hw).1
    rw [hw] at hl
    simp only [Option.map_none, ptr] at hl
    generalize hR : HeldTells w (S.held o) = R
    have HR := Lib.hid hR
    clear H hw c0 ho hR
    go_enter Try.func17, Try.ntmps17
    go_wp2
    rw [← HR.out]
    exact ⟨_, none, [], rfl, names_nil HW.out, slc_nil _ _, Below.refl _ _, fun b e => by cases e⟩
  | some k =>
    have h := H.owners.each o k hw
    obtain ⟨k0, -, -, -⟩ := ow_cells h
    rw [hw] at hl
    simp only [Option.map_some, ptr] at hl
    obtain ⟨D, hown, -⟩ := h.own.ex
    have hsz : Maps.size D ≤ k.cnt := hown.size_le
    have hcn := h.few
    have hlen := hown.len Try.underlying77 3
    obtain ⟨i0, R⟩ := rowGrant
    obtain ⟨L, hL⟩ : ∃ L, L = Maps.size D := ⟨_, rfl⟩
    rw [← hL] at hlen hsz
    obtain ⟨w2, hmk, ho2, hg2⟩ := run_make_own (P := Try.prog) w w.heap.size 32 35 i0 (.agg #[.string ⟨#[]⟩, .int .i64 0]) 2 R.ht R.hi R.hz R.hsz .i64 .i64 L (by rw [R.hby]; omega) (by unfold maxLen; omega) (Nat.le_refl _)
    obtain ⟨bo0, hs0, hbo0⟩ := slc_of_own ho2 (fun u hu => by cases hu)
    have hb2 : Below w.heap.size w w2 := ⟨hg2.os, hg2.tape, hg2.output, hg2.size, fun b hb => hg2.block b hb (by simp)⟩
    have h2 := (H.below hb2).owners.each o k hw
    have HS := Lib.hid (sorted_any h2.own h2.lt (by omega))
    have HB2 := Lib.hid hb2
    have HT := Lib.hid ((H.below hb2).below (below_alloc w2 (.cells #[.map (some k.hm)] 77)))
    have HW := Lib.hid hw
    have HR0 := Lib.hid R
    have HS0 := Lib.hid hs0
    have HBO := Lib.hid hbo0
    have HK := Lib.hid keys_any
    have hb3 := HB2.out.trans ((below_alloc w2 (.cells #[.map (some k.hm)] 77)).mono hb2.size)
    have HB3 := Lib.hid hb3
    have HE := Lib.hid (size_alloc w2 (.cells #[.map (some k.hm)] 77))
    have hcl : L ≤ 5000000000000 := by omega
    have hkc : k.cnt < 5000000000000 := by omega
    generalize hR : HeldTells w (S.held o) = RR
    have HR := Lib.hid hR
    have H0 := Lib.hid H
    clear H hN ho hown hsz hcn R ho2 hg2 hs0 hbo0 hb2 hb3 h h2 hw c0 hL hR
    go_enter Try.func17, Try.ntmps17
    go_wp2_with (first
      | (go_at_call 37; refine (HK.out _ _).mono ?_; rintro e w' ⟨rfl, rfl⟩)
      | (go_at_call 42; refine HS.out.mono ?_; rintro e w4 ⟨v, ns, rfl, hns, hnl, hrow, hb4⟩; obtain ⟨nb, hnb, hnb2⟩ := slc_of_own hrow (fun u hu => by obtain ⟨z, _, rfl⟩ := List.mem_map.1 hu; rfl); obtain ⟨n, hn⟩ : ∃ n, n = ns.length := ⟨_, rfl⟩; rw [← hn] at hnl hnb; obtain ⟨na, ncap, rfl, hnc, hnm, hnz, hnp⟩ := slc_form hnb; have HN := Lib.hid hn; have HNS := Lib.hid hns; have HNB := Lib.hid hnb; have HNB2 := Lib.hid hnb2; have HB4 := Lib.hid hb4; have HNP := Lib.hid hnp; clear hns hrow hb4 hnb hnb2 hnz hnp hn))
    have hB4 : Below w.heap.size w w4 := HB3.out.trans (HB4.out.mono HB3.out.size)
    have hsz3 := HB4.out.size
    have hsz2 := HB2.out.size
    have HST := Lib.hid (show Out w w4 w4 nb bo0 (.slice (some ⟨w.heap.size, 0, none⟩) 0 L) (gcells (S.held o) []) 0 from
      ⟨slc_below HS0.out (((below_alloc w2 _)).trans (HB4.out.mono (by rw [HE.out]; omega))), hB4, fun b e => ⟨(HBO.out b e).1, fun e' => by
        have h1 := (HNB2.out b e').1
        have h2 := slc_lt HS0.out b e
        rw [HE.out] at h1; omega⟩, fun b e => ⟨slc_lt HNB.out b e, rfl⟩, Nat.le_refl _⟩)
    clear hB4 hsz3 hsz2 hmk hlen hl c1 k0
    unfold maxLen at hnm
    go_loopw [6, 36] (fun v i wr => ∃ (j : Nat) (bo : Option Nat), j ≤ n ∧ i = .int .i64 (j : Int) ∧ Hid (Out w wr w4 nb bo v (gcells (S.held o) (ns.take j)) j)) (fun _ i _ => n - (intOf i).toNat)
    case atStart => exact ⟨0, bo0, Nat.zero_le _, rfl, HST⟩
    case round =>
      obtain ⟨j, bo, hj, rfl, ho⟩ := hrel
      by_cases hlt : j < n
      · have hnj : j < ns.length := by rw [← HN.out]; exact hlt
        have hget : ns[j]? = some ns[j] := List.getElem?_eq_getElem hnj
        have htk : ns.take (j + 1) = ns.take j ++ [ns[j]] := by rw [List.take_add_one, hget]; rfl
        have hsm := HNS.out.size ns[j] (List.getElem_mem _)
        obtain ⟨b, off, hbe, rfl⟩ := HNP.out (by omega)
        have hcell : wr.cell? ⟨b, off + j, none⟩ = some (.string ns[j]) := by
          rw [World.cell?_of_block (a := ⟨b, off + j, none⟩) (ho.out.nb b hbe).2]
          obtain ⟨_, _, ⟨_, e, _⟩ | ⟨b', off', cap', e1, e2, _, _, _, hx, _⟩⟩ := HNB.out
          · cases e
          · cases e2
            exact hx j _ (by rw [List.getElem?_map, hget]; rfl)
        obtain ⟨nm, hnme⟩ : ∃ nm, nm = ns[j] := ⟨_, rfl⟩
        rw [← hnme] at hcell htk hsm
        have hlook := look_held ((H0.out.below ho.out.below).owners.each o k HW.out) hsm
        have HTK := Lib.hid htk
        have HGS : Hid (_root_.Go.Src Try.prog 2 32 (.slice (some ⟨wr.heap.size, 0, none⟩) 1 1) 1 [.string nm, .int .i64 (S.held o nm : Int)] (wr.alloc (.cells #[.string nm, .int .i64 (S.held o nm : Int)] 35))) := Lib.hid (grant_src (cell_of_row _ _ 0 _ _ _ (cells_new wr 35 _)) (cell_of_row _ _ 1 _ _ _ (cells_new wr 35 _)))
        have HSL := Lib.hid (slc_below ho.out.slc (below_alloc wr (.cells #[.string nm, .int .i64 (S.held o nm : Int)] 35)))
        clear hget hnme htk hsm hbe hnj
        go_wp2_with (refine wpList_slc HR0.out rfl (.tmp 40) (.tmp 46) 32 rfl rfl rfl HSL.out HGS.out rfl (by unfold maxLen; omega) (by omega) ?_; intro ao5 cap5 bo5 w5 g1 g2 g3; have HO5 := Lib.hid (out_step ho.out g1 g2 g3); clear g1 g2 g3)
        go_roundw
        case rel => exact ⟨j + 1, bo5, by omega, by go_num, by rw [HTK.out, gcells_snoc]; exact HO5⟩
        case measure => simp [intOf]; omega
      · have hjn : j = n := by omega
        subst hjn
        have HX : Hid (HeldTells w (S.held o) (.returned u6) wr) := Lib.hid (by
          refine ⟨u6, bo, ns, rfl, HNS.out, ?_, ho.out.below, fun b e => (ho.out.bo b e).1⟩
          have := ho.out.slc
          rw [List.take_of_length_le (by rw [HN.out]; exact Nat.le_refl _)] at this
          rw [← HN.out]; exact this)
        go_wp2
        rw [← HR.out]
        exact HX.out
end Go.Proofs.Ythanjncpgcmnaaa

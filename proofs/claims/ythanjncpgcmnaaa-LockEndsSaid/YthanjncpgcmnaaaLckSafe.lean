/- P14.4: who holds a name goes together with all that hold it; who does not wait lies on no ring: the walk. -/
import Derived.Test.YthanjncpgcmnaaaLckDeed
namespace Go.Proofs.Ythanjncpgcmnaaa
open Go.ChangeShapes Go.WideShapes Go.ChangeAt Go.RowKit

abbrev Nil : Nat → Prop := fun _ => False
section
variable {w0 w : World} {g : Nat} {S : St} {N : Nat} {A : Nat → Prop} (L : Live w0 w g S N A)
include L
theorem live_ask_all (hN : N + 20 < 8796093022208) {o : Nat} (ho : o < top) {nm : ByteArray} (hn : nm.size ≤ maxLen) (m : Int) :
    Calls Try.prog 13 #[.pointer (some ⟨g, 0, none⟩), .int .u64 (o : Int), .string nm, .int .i64 m] w (Goes w0 w g (askF S o nm m).1 (N + 1) A (.int .i64 (askF S o nm m).2)) :=
  live_does L (fun _ H => ask_all H hN ho hn m)
theorem live_inv_ask (I : Inv S) (o : Nat) (nm : ByteArray) (m : Int) : Inv (askF S o nm m).1 := by
  obtain ⟨⟨_, H, _, _⟩, _, _⟩ := L
  exact inv_ask I (hold_le H) o nm m
theorem live_free_all (I : Inv S) (hN : N + 1 < 8796093022208) {id : Nat} (ho : id < top) :
    Calls Try.prog 16 #[.pointer (some ⟨g, 0, none⟩), .int .u64 (id : Int)] w fun e w' => ∃ ns S' outs v bo, e = .returned v ∧ Names (want S id) ns ∧ All ns (freedG S id) S' outs ∧ Live w0 w' g S' N A ∧ Inv S' ∧ Slc w' bo 1 v outs.length (u64s outs) ∧ (∀ b, bo = some b → w.heap.size ≤ b) ∧ ∀ k, A k → w'.heap[k]? = w.heap[k]? := by
  obtain ⟨⟨x, t, h2, h3⟩, hb, hlt⟩ := L
  refine (free_all t I hN ho).mono ?_
  rintro e w' ⟨ns, S', x', outs, v, bo, rfl, hn, hall, t', s', I', hslc, hbo⟩
  refine ⟨ns, S', outs, v, bo, rfl, hn, hall, ⟨⟨x', t', fun b hb' => ?_, fun b hb' => (s'.ext b (hlt b hb')).trans (h3 b hb')⟩, Turned.to_below hb s'.turned h2 hb.size, fun b hb' => Nat.lt_of_lt_of_le (hlt b hb') s'.turned.size⟩, I', hslc, fun b e => (hbo b e).1, fun k hk => s'.turned.block k (hlt k hk) (by rw [h3 k hk]; simp)⟩
  by_cases hlt' : b < w.heap.size
  · exact h2 b (by rw [← s'.ext b hlt']; exact hb')
  · have := hb.size; omega
theorem live_held (hN : N < 5000000000000) {o : Nat} (ho : o < top) : Calls Try.prog 17 #[.pointer (some ⟨g, 0, none⟩), .int .u64 (o : Int)] w (HeldTells w (S.held o)) := by
  obtain ⟨⟨x, H, _, _⟩, _, _⟩ := L
  exact held_any H hN ho
theorem live_waits {o : Nat} (ho : o < top) : Calls Try.prog 26 #[.pointer (some ⟨g, 0, none⟩), .int .u64 (o : Int)] w (WaitsTells w (S.waits o)) := by
  obtain ⟨⟨x, H, _, _⟩, _, _⟩ := L
  exact waits_any H ho
theorem live_victim (I : Inv S) (hN : N < 8796093022208) {o : Nat} (ho : o < top) : Calls Try.prog 18 #[.pointer (some ⟨g, 0, none⟩), .int .u64 (o : Int)] w (VictimTells w S o) := by
  obtain ⟨⟨x, H, _, _⟩, _, _⟩ := L
  exact victim_inv H I hN ho
end
theorem te_first {S : St} {a b : Nat} (h : TE S a b) : (S.waits a).2 ≠ 0 := by
  induction h with
  | one h => exact h.1
  | snoc _ _ ih => exact ih
theorem gcell_at (f : ByteArray → Nat) (ns : List ByteArray) : ∀ (j : Nat) (n : ByteArray), ns[j]? = some n → (gcells f ns)[j * 2]? = some (.string n) ∧ (gcells f ns)[j * 2 + 1]? = some (.int .i64 (f n : Int)) := by
  induction ns with
  | nil => intro j p h; simp at h
  | cons a r ih =>
    intro j p h
    cases j with
    | zero => simp at h; subst h; exact ⟨rfl, rfl⟩
    | succ j =>
      have := ih j p (by simpa using h)
      rw [show gcells f (a :: r) = .string a :: .int .i64 (f a : Int) :: gcells f r from rfl, show (j + 1) * 2 = j * 2 + 2 from by omega]
      exact ⟨by simpa using this.1, by simpa using this.2⟩
/-- A grant that was told. -/
theorem grant_cell {w : World} {bo ao : Option _} {n cap : Nat} {f : ByteArray → Nat} {ns : List ByteArray} (h : Slc w bo 2 (.slice ao n cap) n (gcells f ns)) (hn : ns.length = n) {j : Nat} (hj : j < n) : ∃ b off nm, ao = some ⟨b, off, none⟩ ∧ nm ∈ ns ∧ w.cell? ⟨b, off + j * 2, none⟩ = some (.string nm) ∧ w.cell? ⟨b, off + j * 2 + 1, none⟩ = some (.int .i64 (f nm : Int)) := by
  obtain ⟨_, _, ⟨_, _, h0⟩ | ⟨b, off, cap', _, e, _, _, _, hx, _⟩⟩ := h
  · omega
  cases e
  have hg : ns[j]? = some (ns[j]'(by omega)) := List.getElem?_eq_getElem _
  obtain ⟨x0, x1⟩ := gcell_at f ns j _ hg
  exact ⟨b, off, _, rfl, List.mem_of_getElem? hg, hx _ _ x0, by have := hx _ _ x1; rwa [← Nat.add_assoc] at this⟩
set_option maxRecDepth 100000 in
set_option maxHeartbeats 8000000 in
theorem safe_walk {a : Option Addr} {n cap : Nat} {W : World} (hin : n ≤ 3518437208883 ∧ ∀ k, k < n → DeedIn W a k) : Calls Try.prog 6 #[.slice a n cap] W fun e w' => e = .returned (.bool true) ∧ Below W.heap.size W w' := by
  have HA := Lib.hid awake_any
  obtain ⟨hn, hd⟩ := hin
  have HD := Lib.hid hd
  clear hd
  go_enter Try.func6, Try.ntmps6
  go_wp2_with (first
    | (go_at_call 12; refine (HA.out _).mono ?_; rintro e w1 ⟨rfl, hb⟩; have B1 := Lib.hid hb; clear hb)
    | (go_at_call 11; refine (live_new W _ B1.out Nil (fun _ h => h.elim)).mono ?_; rintro e w2 ⟨g, rfl, h2, -, -⟩; have L0 := Lib.hid h2; clear h2 B1))
  go_loopw [4] (fun i wr => ∃ (j N : Nat) (S : St), j ≤ n ∧ i = .int .i64 (j : Int) ∧ Hid (Live W wr g S N Nil) ∧ Hid (Inv S) ∧ N ≤ j) (fun i _ => n - (intOf i).toNat)
  case atStart => exact ⟨0, 0, S0, Nat.zero_le _, rfl, L0, Lib.hid inv_S0, Nat.le_refl _⟩
  case round =>
    obtain ⟨j, N, S, hj, rfl, hL, hI, hNj⟩ := hrel
    by_cases hlt : j < n
    · obtain ⟨b, off, dd, oo, nm, mm, rfl, hda⟩ := HD.out j hlt
      have hdb := deed_below hda hL.out.below
      have c0 := hdb.c0; have c1 := hdb.c1; have c2 := hdb.c2; have c3 := hdb.c3
      have rd := hdb.rd; have rm := hdb.rm
      have HDB := Lib.hid hdb
      have HL1 := Lib.hid (live_on hL.out (below_alloc wr (.cells #[.int .i64 dd, .int .u64 (oo : Int), .string nm, .int .i64 mm] 45)))
      have HASK := Lib.hid (live_ask_all HL1.out (by omega) hdb.top hdb.size mm)
      have HFRE := Lib.hid (live_free_all HL1.out hI.out (by omega) hdb.top)
      have HIA := Lib.hid (live_inv_ask HL1.out hI.out oo nm mm)
      clear hda hdb
      by_cases hdo : dd ≤ 4
      · go_wp2_with (go_at_call 13; refine HASK.out.mono ?_; rintro e w3 ⟨rfl, h3, -⟩; have HL3 := Lib.hid h3; clear h3)
        go_roundw
        case rel => exact ⟨j + 1, N + 1, _, by omega, by go_num, HL3, HIA, by omega⟩
        case measure => simp [intOf]; omega
      · go_wp2_with (go_at_call 16; refine HFRE.out.mono ?_; rintro e w3 ⟨ns, S', outs, v, bo, rfl, -, -, h3, i3, -, -, -⟩; have HL3 := Lib.hid h3; have HI3 := Lib.hid i3; clear h3 i3)
        go_roundw
        case rel => exact ⟨j + 1, N, _, by omega, by go_num, HL3, HI3, by omega⟩
        case measure => simp [intOf]; omega
    · have hjn : n = j := by omega
      subst hjn
      go_wp2
      have HN : Hid (N < 5000000000000) := Lib.hid (by omega)
      clear L0 hNj hlt hj
      obtain ⟨V0, hV0⟩ : ∃ V0, V0 = wr := ⟨_, rfl⟩
      have HI := hI
      have HL : Hid (Live W V0 g S N Nil) := Lib.hid (by rw [hV0]; exact hL.out)
      have HB0 : Hid (Below V0.heap.size V0 wr) := Lib.hid (by rw [hV0]; exact Below.refl _ _)
      clear hL hV0 hI
      go_loopw [6] (fun i wr => ∃ i' : Nat, i' ≤ n ∧ i = .int .i64 (i' : Int) ∧ Hid (Below V0.heap.size V0 wr)) (fun i _ => n - (intOf i).toNat)
      case atStart => exact ⟨0, Nat.zero_le _, rfl, HB0⟩
      case round =>
        obtain ⟨i', hi', rfl, hB⟩ := hrel
        by_cases hlt : i' < n
        · obtain ⟨b, off, dd, oo, nm, mm, rfl, hda⟩ := HD.out i' hlt
          have hdb := deed_below hda (HL.out.below.trans (hB.out.mono HL.out.below.size))
          have c1 := hdb.c1
          have HT := Lib.hid hdb.top
          have HDB := Lib.hid hdb
          have HH := Lib.hid (live_held (live_on HL.out hB.out) HN.out hdb.top)
          clear hda hdb
          go_wp2_with (go_at_call 17; refine HH.out.mono ?_; rintro e w3 ⟨va, ba, na, rfl, hna, hsa, hb3, -⟩; obtain ⟨ka, hka⟩ : ∃ ka, ka = na.length := ⟨_, rfl⟩; rw [← hka] at hsa; obtain ⟨aa, acap, rfl, hale, hacm, -⟩ := slc_form hsa; unfold maxLen at hacm; have HSA := Lib.hid hsa; have HNA := Lib.hid hna; have HKA := Lib.hid hka; have hb03 := hB.out.trans (hb3.mono hB.out.size); have HB3 := Lib.hid hb03; have HBR3 := Lib.hid hb3; have c3 := (deed_below HDB.out hb3).c1; have HD3 := Lib.hid (deed_below HDB.out hb3); have HWT := Lib.hid (live_waits (live_on HL.out hb03) HT.out); clear hsa hna hka hb3 hb03)
          have HVI : Hid (∀ V : World, Below V0.heap.size V0 V → Calls Try.prog 18 #[.pointer (some ⟨g, 0, none⟩), .int .u64 (oo : Int)] V (VictimTells V S oo)) := Lib.hid (fun V hb => live_victim (live_on HL.out hb) HI.out (by have := HN.out; omega) (o := oo) HT.out)
          by_cases hw : (S.waits oo).2 = 0
          · have HWT0 : Hid (WaitsTells w3 (S.waits oo) = fun e w' => Below w3.heap.size w3 w' ∧ e = .returned (.tuple #[.agg #[.string ⟨#[]⟩, .int .i64 0], .bool false])) := Lib.hid (by unfold WaitsTells; rw [if_pos hw])
            have HNT : Hid (¬ TE S oo oo) := Lib.hid (fun h => te_first h hw)
            rw [HWT0.out] at HWT
            clear hw
            go_wp2_with (first
              | (go_at_call 26; refine HWT.out.mono ?_; rintro e w4 ⟨hb4, rfl⟩; have hb4' := hb4.trans ((below_alloc w4 (.cells #[.string ⟨#[]⟩, .int .i64 0] 35)).mono hb4.size); have HB34 := Lib.hid hb4'; have HB4 := Lib.hid (HB3.out.trans (hb4'.mono HB3.out.size)); have c4 := (deed_below HD3.out hb4').c1; have HV4 := Lib.hid (HVI.out _ HB4.out); clear hb4 hb4')
              | (go_at_call 18; refine HV4.out.mono ?_; rintro e w5 ⟨hb5, hv5⟩; obtain ⟨-, rfl⟩ := hv5.resolve_right (fun h => HNT.out h.1); have HB35 := Lib.hid (HB34.out.trans (hb5.mono HB34.out.size)); have HB5 := Lib.hid (HB3.out.trans (HB35.out.mono HB3.out.size)); clear hb5))
            have HB35' : Hid (Below wr.heap.size wr w5) := Lib.hid (HBR3.out.trans (HB35.out.mono HBR3.out.size))
            clear c4 HV4 HB34 HB4 HWT0
            have HS5 := Lib.hid (slc_below HSA.out HB35.out)
            clear HWT HVI HSA HB35 c1 c3
            go_loopw [12] (fun k wr => ∃ k' : Nat, k' ≤ i' ∧ k = .int .i64 (k' : Int) ∧ Hid (Below w5.heap.size w5 wr)) (fun k _ => i' - (intOf k).toNat)
            case atStart => exact ⟨0, Nat.zero_le _, rfl, Lib.hid (Below.refl _ _)⟩
            case round =>
              obtain ⟨k', hk', rfl, hBk⟩ := hrel
              by_cases hlk : k' < i'
              · obtain ⟨b2, off2, dd2, ok, nm2, mm2, e2, hda2⟩ := HD.out k' (by omega)
                cases e2
                have hbk0 := HB5.out.trans (hBk.out.mono HB5.out.size)
                have hdk := deed_below hda2 (HL.out.below.trans (hbk0.mono HL.out.below.size))
                have ci := (deed_below HDB.out ((HB35'.out).trans (hBk.out.mono HB35'.out.size))).c1
                have ck := hdk.c1
                have HTK := Lib.hid hdk.top
                have HHK := Lib.hid (fun V (hb : Below wr.heap.size wr V) => live_held (live_on HL.out (hbk0.trans (hb.mono hbk0.size))) HN.out (o := ok) hdk.top)
                clear hda2 hdk hbk0
                by_cases heq : ok = oo
                · subst heq
                  go_wp2
                  go_quiet (fail)
                  go_wp2
                  go_roundw
                  case rel => exact ⟨k' + 1, by omega, by go_num, Lib.hid (hBk.out.trans ((below_drew1 wr nq).mono hBk.out.size))⟩
                  case measure => simp [intOf]; omega
                · have HNE := Lib.hid heq
                  have d : ((ok : Int) == (oo : Int)) = false := by simp; omega
                  clear heq
                  go_wp2
                  go_quiet (fail)
                  have HVK := Lib.hid (HHK.out _ (below_drew1 wr nq))
                  go_wp2_with (go_at_call 17; refine HVK.out.mono ?_; rintro e w6 ⟨vb, bb, nb, rfl, hnb, hsb, hb6, -⟩; obtain ⟨kb, hkb⟩ : ∃ kb, kb = nb.length := ⟨_, rfl⟩; rw [← hkb] at hsb; obtain ⟨ab, bcap, rfl, hble, hbcm, -⟩ := slc_form hsb; unfold maxLen at hbcm; have HSB := Lib.hid hsb; have HNB := Lib.hid hnb; have HKB := Lib.hid hkb; have HB6 := Lib.hid (hBk.out.trans (((below_drew1 wr nq).trans (hb6.mono (below_drew1 wr nq).size)).mono hBk.out.size)); clear hsb hnb hkb hb6)
                  have HSA6 := Lib.hid (slc_below HS5.out HB6.out)
                  clear HVK HHK ci ck hBk d
                  go_loopw [14] (fun x wr => ∃ x' : Nat, x' ≤ ka ∧ x = .int .i64 (x' : Int) ∧ Hid (Below w6.heap.size w6 wr)) (fun x _ => ka - (intOf x).toNat)
                  case atStart => exact ⟨0, Nat.zero_le _, rfl, Lib.hid (Below.refl _ _)⟩
                  case round =>
                    obtain ⟨x', hx', rfl, hBx⟩ := hrel
                    by_cases hlx : x' < ka
                    · go_wp2
                      go_loopw [15] (fun y wr => ∃ y' : Nat, y' ≤ kb ∧ y = .int .i64 (y' : Int) ∧ Hid (Below w6.heap.size w6 wr)) (fun y _ => kb - (intOf y).toNat)
                      case atStart => exact ⟨0, Nat.zero_le _, rfl, hBx⟩
                      case round =>
                        obtain ⟨y', hy', rfl, hBy⟩ := hrel
                        by_cases hly : y' < kb
                        · obtain ⟨ba1, of1, n1, rfl, hm1, x0, x1⟩ := grant_cell (slc_below HSA6.out hBy.out) HKA.out.symm hlx
                          obtain ⟨ba2, of2, n2, rfl, hm2, y0, y1⟩ := grant_cell (slc_below HSB.out hBy.out) HKB.out.symm hly
                          have HTG := Lib.hid tog_any
                          by_cases hE : n1 = n2
                          · subst hE
                            have HTO : Hid (tog (S.held oo n1 : Nat) (S.held ok n1 : Nat) = true) := Lib.hid (by
                              have h1 := (HNA.out.mem n1).1 hm1
                              have h2 := (HNB.out.mem n1).1 hm2
                              have hs := HI.out.safe n1 oo ok (fun e => HNE.out e.symm)
                              rw [HI.out.cons, HI.out.cons] at hs
                              exact hs h1 h2)
                            have dE : (n1.toList == n1.toList) = true := by simp
                            clear hm1 hm2
                            go_wp2
                            go_still_tail 22, (by kernel_rfl)
                            change wpList _ _ _ _ _ wr.drew
                            go_wp2_with (go_at_call 20; refine (HTG.out _ _ _).mono ?_; rintro e w7 ⟨rfl, hb7⟩; rw [HTO.out]; have HB7 := Lib.hid (hBy.out.trans (((Below.drew (Below.refl _ wr)).trans hb7).mono hBy.out.size)); clear hb7)
                            go_roundw
                            case rel => exact ⟨y' + 1, by omega, by go_num, HB7⟩
                            case measure => simp [intOf]; omega
                          · have dE : (n1.toList == n2.toList) = false := by
                              rw [ByteArray.toList_eq, ByteArray.toList_eq, beq_eq_false_iff_ne]
                              intro e
                              apply hE
                              cases n1; cases n2
                              simp only [ByteArray.mk.injEq]
                              exact Array.toList_inj.1 e
                            clear hm1 hm2
                            go_wp2
                            go_quiet (fail)
                            go_wp2
                            go_roundw
                            case rel => exact ⟨y' + 1, by omega, by go_num, Lib.hid (hBy.out.trans ((below_drew1 wr nq).mono hBy.out.size))⟩
                            case measure => simp [intOf]; omega
                        · go_wp2
                          go_roundw
                          case rel => exact ⟨x' + 1, by omega, by go_num, hBy⟩
                          case measure => simp [intOf]; omega
                    · go_wp2
                      go_roundw
                      case rel => exact ⟨k' + 1, by omega, by go_num, Lib.hid (HB6.out.trans (hBx.out.mono HB6.out.size))⟩
                      case measure => simp [intOf]; omega
              · go_wp2
                go_roundw
                case rel => exact ⟨i' + 1, by omega, by go_num, Lib.hid (HB5.out.trans (hBk.out.mono HB5.out.size))⟩
                case measure => simp [intOf]; omega
          · have HWT0 : Hid (WaitsTells w3 (S.waits oo) = fun e w' => Below w3.heap.size w3 w' ∧ e = .returned (.tuple #[.agg #[.string (S.waits oo).1, .int .i64 ((S.waits oo).2 : Int)], .bool true])) := Lib.hid (by unfold WaitsTells; rw [if_neg hw])
            rw [HWT0.out] at HWT
            clear hw
            go_wp2_with (first
              | (go_at_call 26; refine HWT.out.mono ?_; rintro e w4 ⟨hb4, rfl⟩; have hb4' := hb4.trans ((below_alloc w4 (.cells #[.string (S.waits oo).1, .int .i64 ((S.waits oo).2 : Int)] 35)).mono hb4.size); have HB34 := Lib.hid hb4'; have HB4 := Lib.hid (HB3.out.trans (hb4'.mono HB3.out.size)); have c4 := (deed_below HD3.out hb4').c1; have HV4 := Lib.hid (HVI.out _ HB4.out); clear hb4 hb4')
              | (go_at_call 18; refine HV4.out.mono ?_; rintro e w5 ⟨hb5, hv5⟩; have HB35 := Lib.hid (HB34.out.trans (hb5.mono HB34.out.size)); have HB5 := Lib.hid (HB3.out.trans (HB35.out.mono HB3.out.size)); clear hb5; rcases hv5 with ⟨-, rfl⟩ | ⟨-, G, rfl, -, -⟩))
            · have HB35' : Hid (Below wr.heap.size wr w5) := Lib.hid (HBR3.out.trans (HB35.out.mono HBR3.out.size))
              clear c4 HV4 HB34 HB4 HWT0
              have HS5 := Lib.hid (slc_below HSA.out HB35.out)
              clear HWT HVI HSA HB35 c1 c3
              go_loopw [12] (fun k wr => ∃ k' : Nat, k' ≤ i' ∧ k = .int .i64 (k' : Int) ∧ Hid (Below w5.heap.size w5 wr)) (fun k _ => i' - (intOf k).toNat)
              case atStart => exact ⟨0, Nat.zero_le _, rfl, Lib.hid (Below.refl _ _)⟩
              case round =>
                obtain ⟨k', hk', rfl, hBk⟩ := hrel
                by_cases hlk : k' < i'
                · obtain ⟨b2, off2, dd2, ok, nm2, mm2, e2, hda2⟩ := HD.out k' (by omega)
                  cases e2
                  have hbk0 := HB5.out.trans (hBk.out.mono HB5.out.size)
                  have hdk := deed_below hda2 (HL.out.below.trans (hbk0.mono HL.out.below.size))
                  have ci := (deed_below HDB.out ((HB35'.out).trans (hBk.out.mono HB35'.out.size))).c1
                  have ck := hdk.c1
                  have HTK := Lib.hid hdk.top
                  have HHK := Lib.hid (fun V (hb : Below wr.heap.size wr V) => live_held (live_on HL.out (hbk0.trans (hb.mono hbk0.size))) HN.out (o := ok) hdk.top)
                  clear hda2 hdk hbk0
                  by_cases heq : ok = oo
                  · subst heq
                    go_wp2
                    go_quiet (fail)
                    go_wp2
                    go_roundw
                    case rel => exact ⟨k' + 1, by omega, by go_num, Lib.hid (hBk.out.trans ((below_drew1 wr nq).mono hBk.out.size))⟩
                    case measure => simp [intOf]; omega
                  · have HNE := Lib.hid heq
                    have d : ((ok : Int) == (oo : Int)) = false := by simp; omega
                    clear heq
                    go_wp2
                    go_quiet (fail)
                    have HVK := Lib.hid (HHK.out _ (below_drew1 wr nq))
                    go_wp2_with (go_at_call 17; refine HVK.out.mono ?_; rintro e w6 ⟨vb, bb, nb, rfl, hnb, hsb, hb6, -⟩; obtain ⟨kb, hkb⟩ : ∃ kb, kb = nb.length := ⟨_, rfl⟩; rw [← hkb] at hsb; obtain ⟨ab, bcap, rfl, hble, hbcm, -⟩ := slc_form hsb; unfold maxLen at hbcm; have HSB := Lib.hid hsb; have HNB := Lib.hid hnb; have HKB := Lib.hid hkb; have HB6 := Lib.hid (hBk.out.trans (((below_drew1 wr nq).trans (hb6.mono (below_drew1 wr nq).size)).mono hBk.out.size)); clear hsb hnb hkb hb6)
                    have HSA6 := Lib.hid (slc_below HS5.out HB6.out)
                    clear HVK HHK ci ck hBk d
                    go_loopw [14] (fun x wr => ∃ x' : Nat, x' ≤ ka ∧ x = .int .i64 (x' : Int) ∧ Hid (Below w6.heap.size w6 wr)) (fun x _ => ka - (intOf x).toNat)
                    case atStart => exact ⟨0, Nat.zero_le _, rfl, Lib.hid (Below.refl _ _)⟩
                    case round =>
                      obtain ⟨x', hx', rfl, hBx⟩ := hrel
                      by_cases hlx : x' < ka
                      · go_wp2
                        go_loopw [15] (fun y wr => ∃ y' : Nat, y' ≤ kb ∧ y = .int .i64 (y' : Int) ∧ Hid (Below w6.heap.size w6 wr)) (fun y _ => kb - (intOf y).toNat)
                        case atStart => exact ⟨0, Nat.zero_le _, rfl, hBx⟩
                        case round =>
                          obtain ⟨y', hy', rfl, hBy⟩ := hrel
                          by_cases hly : y' < kb
                          · obtain ⟨ba1, of1, n1, rfl, hm1, x0, x1⟩ := grant_cell (slc_below HSA6.out hBy.out) HKA.out.symm hlx
                            obtain ⟨ba2, of2, n2, rfl, hm2, y0, y1⟩ := grant_cell (slc_below HSB.out hBy.out) HKB.out.symm hly
                            have HTG := Lib.hid tog_any
                            by_cases hE : n1 = n2
                            · subst hE
                              have HTO : Hid (tog (S.held oo n1 : Nat) (S.held ok n1 : Nat) = true) := Lib.hid (by
                                have h1 := (HNA.out.mem n1).1 hm1
                                have h2 := (HNB.out.mem n1).1 hm2
                                have hs := HI.out.safe n1 oo ok (fun e => HNE.out e.symm)
                                rw [HI.out.cons, HI.out.cons] at hs
                                exact hs h1 h2)
                              have dE : (n1.toList == n1.toList) = true := by simp
                              clear hm1 hm2
                              go_wp2
                              go_still_tail 22, (by kernel_rfl)
                              change wpList _ _ _ _ _ wr.drew
                              go_wp2_with (go_at_call 20; refine (HTG.out _ _ _).mono ?_; rintro e w7 ⟨rfl, hb7⟩; rw [HTO.out]; have HB7 := Lib.hid (hBy.out.trans (((Below.drew (Below.refl _ wr)).trans hb7).mono hBy.out.size)); clear hb7)
                              go_roundw
                              case rel => exact ⟨y' + 1, by omega, by go_num, HB7⟩
                              case measure => simp [intOf]; omega
                            · have dE : (n1.toList == n2.toList) = false := by
                                rw [ByteArray.toList_eq, ByteArray.toList_eq, beq_eq_false_iff_ne]
                                intro e
                                apply hE
                                cases n1; cases n2
                                simp only [ByteArray.mk.injEq]
                                exact Array.toList_inj.1 e
                              clear hm1 hm2
                              go_wp2
                              go_quiet (fail)
                              go_wp2
                              go_roundw
                              case rel => exact ⟨y' + 1, by omega, by go_num, Lib.hid (hBy.out.trans ((below_drew1 wr nq).mono hBy.out.size))⟩
                              case measure => simp [intOf]; omega
                          · go_wp2
                            go_roundw
                            case rel => exact ⟨x' + 1, by omega, by go_num, hBy⟩
                            case measure => simp [intOf]; omega
                      · go_wp2
                        go_roundw
                        case rel => exact ⟨k' + 1, by omega, by go_num, Lib.hid (HB6.out.trans (hBx.out.mono HB6.out.size))⟩
                        case measure => simp [intOf]; omega
                · go_wp2
                  go_roundw
                  case rel => exact ⟨i' + 1, by omega, by go_num, Lib.hid (HB5.out.trans (hBk.out.mono HB5.out.size))⟩
                  case measure => simp [intOf]; omega
            · have HB35' : Hid (Below wr.heap.size wr w5) := Lib.hid (HBR3.out.trans (HB35.out.mono HBR3.out.size))
              clear c4 HV4 HB34 HB4 HWT0
              have HS5 := Lib.hid (slc_below HSA.out HB35.out)
              clear HWT HVI HSA HB35 c1 c3
              go_loopw [12] (fun k wr => ∃ k' : Nat, k' ≤ i' ∧ k = .int .i64 (k' : Int) ∧ Hid (Below w5.heap.size w5 wr)) (fun k _ => i' - (intOf k).toNat)
              case atStart => exact ⟨0, Nat.zero_le _, rfl, Lib.hid (Below.refl _ _)⟩
              case round =>
                obtain ⟨k', hk', rfl, hBk⟩ := hrel
                by_cases hlk : k' < i'
                · obtain ⟨b2, off2, dd2, ok, nm2, mm2, e2, hda2⟩ := HD.out k' (by omega)
                  cases e2
                  have hbk0 := HB5.out.trans (hBk.out.mono HB5.out.size)
                  have hdk := deed_below hda2 (HL.out.below.trans (hbk0.mono HL.out.below.size))
                  have ci := (deed_below HDB.out ((HB35'.out).trans (hBk.out.mono HB35'.out.size))).c1
                  have ck := hdk.c1
                  have HTK := Lib.hid hdk.top
                  have HHK := Lib.hid (fun V (hb : Below wr.heap.size wr V) => live_held (live_on HL.out (hbk0.trans (hb.mono hbk0.size))) HN.out (o := ok) hdk.top)
                  clear hda2 hdk hbk0
                  by_cases heq : ok = oo
                  · subst heq
                    go_wp2
                    go_quiet (fail)
                    go_wp2
                    go_roundw
                    case rel => exact ⟨k' + 1, by omega, by go_num, Lib.hid (hBk.out.trans ((below_drew1 wr nq).mono hBk.out.size))⟩
                    case measure => simp [intOf]; omega
                  · have HNE := Lib.hid heq
                    have d : ((ok : Int) == (oo : Int)) = false := by simp; omega
                    clear heq
                    go_wp2
                    go_quiet (fail)
                    have HVK := Lib.hid (HHK.out _ (below_drew1 wr nq))
                    go_wp2_with (go_at_call 17; refine HVK.out.mono ?_; rintro e w6 ⟨vb, bb, nb, rfl, hnb, hsb, hb6, -⟩; obtain ⟨kb, hkb⟩ : ∃ kb, kb = nb.length := ⟨_, rfl⟩; rw [← hkb] at hsb; obtain ⟨ab, bcap, rfl, hble, hbcm, -⟩ := slc_form hsb; unfold maxLen at hbcm; have HSB := Lib.hid hsb; have HNB := Lib.hid hnb; have HKB := Lib.hid hkb; have HB6 := Lib.hid (hBk.out.trans (((below_drew1 wr nq).trans (hb6.mono (below_drew1 wr nq).size)).mono hBk.out.size)); clear hsb hnb hkb hb6)
                    have HSA6 := Lib.hid (slc_below HS5.out HB6.out)
                    clear HVK HHK ci ck hBk d
                    go_loopw [14] (fun x wr => ∃ x' : Nat, x' ≤ ka ∧ x = .int .i64 (x' : Int) ∧ Hid (Below w6.heap.size w6 wr)) (fun x _ => ka - (intOf x).toNat)
                    case atStart => exact ⟨0, Nat.zero_le _, rfl, Lib.hid (Below.refl _ _)⟩
                    case round =>
                      obtain ⟨x', hx', rfl, hBx⟩ := hrel
                      by_cases hlx : x' < ka
                      · go_wp2
                        go_loopw [15] (fun y wr => ∃ y' : Nat, y' ≤ kb ∧ y = .int .i64 (y' : Int) ∧ Hid (Below w6.heap.size w6 wr)) (fun y _ => kb - (intOf y).toNat)
                        case atStart => exact ⟨0, Nat.zero_le _, rfl, hBx⟩
                        case round =>
                          obtain ⟨y', hy', rfl, hBy⟩ := hrel
                          by_cases hly : y' < kb
                          · obtain ⟨ba1, of1, n1, rfl, hm1, x0, x1⟩ := grant_cell (slc_below HSA6.out hBy.out) HKA.out.symm hlx
                            obtain ⟨ba2, of2, n2, rfl, hm2, y0, y1⟩ := grant_cell (slc_below HSB.out hBy.out) HKB.out.symm hly
                            have HTG := Lib.hid tog_any
                            by_cases hE : n1 = n2
                            · subst hE
                              have HTO : Hid (tog (S.held oo n1 : Nat) (S.held ok n1 : Nat) = true) := Lib.hid (by
                                have h1 := (HNA.out.mem n1).1 hm1
                                have h2 := (HNB.out.mem n1).1 hm2
                                have hs := HI.out.safe n1 oo ok (fun e => HNE.out e.symm)
                                rw [HI.out.cons, HI.out.cons] at hs
                                exact hs h1 h2)
                              have dE : (n1.toList == n1.toList) = true := by simp
                              clear hm1 hm2
                              go_wp2
                              go_still_tail 22, (by kernel_rfl)
                              change wpList _ _ _ _ _ wr.drew
                              go_wp2_with (go_at_call 20; refine (HTG.out _ _ _).mono ?_; rintro e w7 ⟨rfl, hb7⟩; rw [HTO.out]; have HB7 := Lib.hid (hBy.out.trans (((Below.drew (Below.refl _ wr)).trans hb7).mono hBy.out.size)); clear hb7)
                              go_roundw
                              case rel => exact ⟨y' + 1, by omega, by go_num, HB7⟩
                              case measure => simp [intOf]; omega
                            · have dE : (n1.toList == n2.toList) = false := by
                                rw [ByteArray.toList_eq, ByteArray.toList_eq, beq_eq_false_iff_ne]
                                intro e
                                apply hE
                                cases n1; cases n2
                                simp only [ByteArray.mk.injEq]
                                exact Array.toList_inj.1 e
                              clear hm1 hm2
                              go_wp2
                              go_quiet (fail)
                              go_wp2
                              go_roundw
                              case rel => exact ⟨y' + 1, by omega, by go_num, Lib.hid (hBy.out.trans ((below_drew1 wr nq).mono hBy.out.size))⟩
                              case measure => simp [intOf]; omega
                          · go_wp2
                            go_roundw
                            case rel => exact ⟨x' + 1, by omega, by go_num, hBy⟩
                            case measure => simp [intOf]; omega
                      · go_wp2
                        go_roundw
                        case rel => exact ⟨k' + 1, by omega, by go_num, Lib.hid (HB6.out.trans (hBx.out.mono HB6.out.size))⟩
                        case measure => simp [intOf]; omega
                · go_wp2
                  go_roundw
                  case rel => exact ⟨i' + 1, by omega, by go_num, Lib.hid (HB5.out.trans (hBk.out.mono HB5.out.size))⟩
                  case measure => simp [intOf]; omega
        · have hin : n = i' := by omega
          subst hin
          go_wp2
          go_ret
          exact ⟨rfl, HL.out.below.trans (hB.out.mono HL.out.below.size)⟩
end Go.Proofs.Ythanjncpgcmnaaa

/- T7, P14.4: victims are freed as long as there is a ring, then all that do not wait: nobody is left: the walk. -/
import Derived.Test.YthanjncpgcmnaaaLckProgB
import Derived.Test.YthanjncpgcmnaaaLckSafe
namespace Go.Proofs.Ythanjncpgcmnaaa
open Go.ChangeShapes Go.WideShapes Go.ChangeAt Go.RowKit

section
variable {w0 w : World} {g : Nat} {S : St} {N : Nat} {A : Nat → Prop}
theorem live_top (L : Live w0 w g S N A) (I : Inv S) {o : Nat} (h : (S.waits o).2 ≠ 0) : o < top := by
  obtain ⟨⟨_, H, _, _⟩, _, _⟩ := L
  exact top_of_waits H I h
theorem live_le (L : Live w0 w g S N A) : ∀ n o, S.hold n o ≤ 4 := by
  obtain ⟨⟨_, H, _, _⟩, _, _⟩ := L
  exact hold_le H
/-- A row beside a table is appended to. -/
theorem live_append {w5 : World} {bo bo' : Option Nat} {D : Nat} (L : Live w0 w g S N (fun k => bo = some k ∨ k = D)) (hlo : ∀ b, bo = some b → w0.heap.size ≤ b) (g2 : Turned (fun k => bo = some k) w w5) (g3 : bo' = bo ∨ bo' = some w.heap.size) (hlt : ∀ b, bo' = some b → b < w5.heap.size) : Live w0 w5 g S N (fun k => bo' = some k ∨ k = D) ∧ ∀ b, bo' = some b → w0.heap.size ≤ b := by
  have hD := L.lt D (.inr rfl)
  have hb5 : Below w0.heap.size w0 w5 := Turned.to_below L.below g2 hlo L.below.size
  obtain ⟨⟨x, h1, h2, h3⟩, h5, h6⟩ := L
  refine ⟨⟨⟨x, h1.turned g2 (fun b hb => h3 b (.inl hb)), h2, fun b hb => ?_⟩, hb5, fun b hb => ?_⟩, fun b e => ?_⟩
  · rcases hb with hb | hb
    · rcases g3 with g3 | g3
      · exact h3 b (.inl (g3 ▸ hb))
      · rw [g3] at hb; cases hb
        exact Classical.byContradiction fun e => Nat.lt_irrefl _ (h1.lt _ e)
    · exact h3 b (.inr hb)
  · rcases hb with hb | hb
    · exact hlt b hb
    · rw [hb]; exact Nat.lt_of_lt_of_le hD g2.size
  · rcases g3 with g3 | g3
    · exact hlo b (g3 ▸ e)
    · rw [g3] at e; cases e; exact h5.size
end
theorem slc_same {w w' : World} {bo : Option Nat} {sz n : Nat} {v : Value} {xs : List Value} (h : Slc w bo sz v n xs) (hk : ∀ b, bo = some b → w'.heap[b]? = w.heap[b]?) : Slc w' bo sz v n xs := by
  obtain ⟨h1, h2, h3 | ⟨b, off, cap, rfl, rfl, hb, hn, hc, hx, hsp⟩⟩ := h
  · exact ⟨h1, h2, .inl h3⟩
  · have hbk := hk b rfl
    have hb' : b < w'.heap.size := by
      have h4 := Array.getElem?_eq_getElem hb
      rw [← hbk] at h4
      exact (Array.getElem?_eq_some_iff.1 h4).1
    refine ⟨h1, h2, .inr ⟨b, off, cap, rfl, rfl, hb', hn, hc, fun j u hu => ?_, fun j hj => ?_⟩⟩
    · rw [World.cell?_of_block (a := ⟨b, off + j, none⟩) hbk]; exact hx j u hu
    · rw [World.cell?_of_block (a := ⟨b, off + j, none⟩) hbk, World.frozen?_of_block (a := ⟨b, off + j, none⟩) hbk]; exact hsp j hj
theorem ring_waits {S : St} {o G : Nat} (hr : TE S o o) (h : G = o ∨ (TE S o G ∧ TE S G o)) : (S.waits G).2 ≠ 0 := by
  rcases h with h | h
  · rw [h]; exact te_head hr
  · exact te_head h.2
theorem take_known {l : List Nat} {k z oo : Nat} (h : l[k]? = some z) : oo ∈ l.take (k + 1) ↔ oo ∈ l.take k ∨ z = oo := by
  rw [List.take_add_one, h, List.mem_append]
  simp [eq_comm]
theorem held_none {S : St} (I : Inv S) (h : Fin0 S) {o : Nat} {ns : List ByteArray} (hn : Names (S.held o) ns) : ns = [] :=
  List.eq_nil_iff_forall_not_mem.2 (fun n hm => (hn.mem n).1 hm (by rw [← I.cons]; exact (h o).2 n))
/-- Between deeds. -/
structure Ends (W wr : World) (g : Nat) (S : St) (N : Nat) (ows : List Nat) (bo : Option Nat) (v : Value) : Prop where
  live : Live W wr g S N (fun k => bo = some k)
  slc : Slc wr bo 1 v ows.length (u64s ows)
  good : Good S ows
  tops : ∀ o ∈ ows, o < top
  lo : ∀ b, bo = some b → W.heap.size ≤ b
set_option maxRecDepth 100000 in
set_option maxHeartbeats 8000000 in
theorem ends_walk {a : Option Addr} {n cap : Nat} {W : World} (hin : n ≤ 3518437208883 ∧ ∀ k, k < n → DeedIn W a k) : Calls Try.prog 7 #[.slice a n cap] W fun e w' => e = .returned (.bool true) ∧ Below W.heap.size W w' := by
  have HA := Lib.hid awake_any
  obtain ⟨hn, hd⟩ := hin
  have HD := Lib.hid hd
  obtain ⟨iu, RU⟩ := rowU64
  have HRU := Lib.hid RU
  clear hd RU
  go_enter Try.func7, Try.ntmps7
  go_wp2_with (first
    | (go_at_call 12; refine (HA.out _).mono ?_; rintro e w1 ⟨rfl, hb⟩; have B1 := Lib.hid hb; clear hb)
    | (go_at_call 11; refine (live_new W _ B1.out (fun k => (none : Option Nat) = some k) (fun _ h => by cases h)).mono ?_; rintro e w2 ⟨g, rfl, h2, -, -⟩; have L0 := Lib.hid h2; clear h2 B1))
  go_loopw [4, 5] (fun v i wr => ∃ (j N : Nat) (S : St) (ows : List Nat) (bo : Option Nat), j ≤ n ∧ i = .int .i64 (j : Int) ∧ Hid (Ends W wr g S N ows bo v) ∧ N ≤ j ∧ ows.length ≤ j) (fun _ i _ => n - (intOf i).toNat)
  case atStart => exact ⟨0, 0, S0, [], none, Nat.zero_le _, rfl, Lib.hid ⟨L0.out, slc_nil _ _, good_S0, fun o h => (by cases h), fun b e => (by cases e)⟩, Nat.le_refl _, Nat.le_refl _⟩
  case round =>
    obtain ⟨j, N, S, ows, bo, hj, rfl, hE, hNj, hoj⟩ := hrel
    have hsl0 := hE.out.slc
    obtain ⟨l, hl⟩ : ∃ l, l = ows.length := ⟨_, rfl⟩
    rw [← hl] at hsl0 hoj
    obtain ⟨ao, cp, rfl, hle, hcm, -⟩ := slc_form hsl0
    unfold maxLen at hcm
    have HSL0 := Lib.hid hsl0; have HLL := Lib.hid hl
    clear hsl0 hl
    by_cases hlt : j < n
    · obtain ⟨b, off, dd, oo, nm, mm, rfl, hda⟩ := HD.out j hlt
      have hdb := deed_below hda hE.out.live.below
      have c0 := hdb.c0; have c1 := hdb.c1; have c2 := hdb.c2; have c3 := hdb.c3
      have rd := hdb.rd; have rm := hdb.rm
      have HDB := Lib.hid hdb
      clear hda hdb
      have hE1 : Hid (Ends W (wr.alloc (.cells #[.int .i64 dd, .int .u64 (oo : Int), .string nm, .int .i64 mm] 45)) g S N ows bo (.slice ao l cp)) := Lib.hid ⟨live_on hE.out.live (below_alloc _ _), slc_below hE.out.slc (below_alloc _ _), hE.out.good, hE.out.tops, hE.out.lo⟩
      by_cases hdo : 4 < dd
      · go_wp2
        go_roundw
        case rel => exact ⟨j + 1, N, S, ows, bo, by omega, by go_num, hE1, by omega, by have := HLL.out; omega⟩
        case measure => simp [intOf]; omega
      · have ddo : decide (4 < dd) = false := decide_eq_false hdo
        by_cases hoo : oo = 0
        · subst hoo
          go_wp2
          go_roundw
          case rel => exact ⟨j + 1, N, S, ows, bo, by omega, by go_num, hE1, by omega, by have := HLL.out; omega⟩
          case measure => simp [intOf]; omega
        · have doo : ((oo : Int) == 0) = false := by simp; omega
          obtain ⟨D, hDD⟩ : ∃ D, D = wr.heap.size := ⟨_, rfl⟩
          obtain ⟨W1, hW1⟩ : ∃ W1, W1 = wr.alloc (.cells #[.int .i64 dd, .int .u64 (oo : Int), .string nm, .int .i64 mm] 45) := ⟨_, rfl⟩
          have HC1 : Hid (Cells W1 D 45 #[.int .i64 dd, .int .u64 (oo : Int), .string nm, .int .i64 mm]) := Lib.hid (by rw [hW1, hDD]; exact cells_new wr _ _)
          have HL1 : Hid (Live W W1 g S N (fun k => bo = some k ∨ k = D)) := Lib.hid (by
            rw [hW1]
            refine live_mono (live_below hE.out.live (below_alloc wr _)) (fun k hk => ?_) (Nat.le_refl _)
            rcases hk with hk | hk
            · exact .inl hk
            · exact .inr (by rw [hk, hDD, size_alloc]; omega))
          have HSL1 : Hid (Slc W1 bo 1 (.slice ao l cp) l (u64s ows)) := Lib.hid (by rw [hW1]; exact slc_below HSL0.out (below_alloc _ _))
          have HCE : Hid (∀ w : World, Cells w D 45 #[.int .i64 dd, .int .u64 (oo : Int), .string nm, .int .i64 mm] → w.cell? ⟨D, 1, none⟩ = some (.int .u64 (oo : Int)) ∧ w.cell? ⟨D, 2, none⟩ = some (.string nm) ∧ w.cell? ⟨D, 3, none⟩ = some (.int .i64 mm)) := Lib.hid (fun w h => ⟨(cell_of_row _ _ 1 _ _ _ h).trans rfl, (cell_of_row _ _ 2 _ _ _ h).trans rfl, (cell_of_row _ _ 3 _ _ _ h).trans rfl⟩)
          have HDNE : Hid (bo ≠ some D) := Lib.hid (fun e => by have := slc_lt HSL0.out D e; omega)
          have HEG := Lib.hid hE.out.good; have HET := Lib.hid hE.out.tops; have HEL := Lib.hid hE.out.lo
          clear HSL0 hE1
          go_wp2
          rw [← hDD, ← hW1]
          clear hDD hW1 c0 c1 c2 c3 hE
          go_loopw [7, 8] (fun v7 i8 wq => ∃ (k' : Nat) (kb : Bool), k' ≤ l ∧ v7 = .bool kb ∧ i8 = .int .i64 (k' : Int) ∧ Hid (kb = true ↔ oo ∈ ows.take k') ∧ Hid (Below W1.heap.size W1 wq)) (fun _ i8 _ => l - (intOf i8).toNat)
          case atStart => exact ⟨0, false, Nat.zero_le _, rfl, rfl, Lib.hid (by simp), Lib.hid (Below.refl _ _)⟩
          case round =>
            obtain ⟨k', kb, hk', rfl, rfl, hkb, hBk⟩ := hrel
            obtain ⟨f1, f2, f3⟩ := HCE.out _ (cells_kept HC1.out (hBk.out.block D (cells_lt HC1.out)))
            by_cases hlk : k' < l
            · have hkl : k' < ows.length := by rw [← HLL.out]; exact hlk
              obtain ⟨bz, oz, rfl, hcz⟩ := slc_at (slc_below HSL1.out hBk.out) (j := k') (u := .int .u64 (ows[k'] : Int)) (by rw [u64s, List.getElem?_map, List.getElem?_eq_getElem hkl]; rfl) hlk
              have hz : ows[k']? = some ows[k'] := List.getElem?_eq_getElem hkl
              generalize ows[k'] = z at hcz hz
              have HTK := Lib.hid (take_known (oo := oo) hz)
              clear hz hkl
              cases kb
              · by_cases hzo : z = oo
                · subst hzo
                  have dz : ((z : Int) == (z : Int)) = true := by simp
                  go_wp2
                  go_quiet (fail)
                  go_wp2
                  go_roundw
                  case rel => exact ⟨k' + 1, true, by omega, rfl, by go_num, Lib.hid ⟨fun _ => HTK.out.2 (.inr (by trivial)), fun _ => rfl⟩, Lib.hid (hBk.out.trans ((below_drew1 wr nq).mono hBk.out.size))⟩
                  case measure => simp [intOf]; omega
                · have dz : ((z : Int) == (oo : Int)) = false := by simp; omega
                  go_wp2
                  go_quiet (fail)
                  go_wp2
                  go_roundw
                  case rel => exact ⟨k' + 1, false, by omega, rfl, by go_num, Lib.hid ⟨fun h => (by cases h), fun h => (HTK.out.1 h).elim (fun h => hkb.out.2 h) (fun h => absurd h hzo)⟩, Lib.hid (hBk.out.trans ((below_drew1 wr nq).mono hBk.out.size))⟩
                  case measure => simp [intOf]; omega
              · go_wp2
                go_quiet (fail)
                go_wp2
                go_roundw
                case rel => exact ⟨k' + 1, true, by omega, rfl, by go_num, Lib.hid ⟨fun _ => HTK.out.2 (.inl (hkb.out.1 (by trivial))), fun _ => rfl⟩, Lib.hid (hBk.out.trans ((below_drew1 wr nq).mono hBk.out.size))⟩
                case measure => simp [intOf]; omega
            · have hkl : l = k' := by omega
              subst hkl
              have HKB : Hid (kb = true ↔ oo ∈ ows) := Lib.hid (by have := hkb.out; rw [List.take_of_length_le (by rw [HLL.out]; exact Nat.le_refl _)] at this; exact this)
              have HLQ := Lib.hid (live_on HL1.out hBk.out)
              have HSQ := Lib.hid (slc_below HSL1.out hBk.out)
              have HCQ := Lib.hid (cells_kept HC1.out (hBk.out.block D (cells_lt HC1.out)))
              cases kb
              · have HSA := Lib.hid (slc_below HSQ.out (below_alloc wr (.cells #[.int .u64 (oo : Int)] 27)))
                have HSR : Hid (_root_.Go.Src Try.prog 1 29 (.slice (some ⟨wr.heap.size, 0, none⟩) 1 1) 1 (u64s [oo]) (wr.alloc (.cells #[.int .u64 (oo : Int)] 27))) := Lib.hid (u64_src ((cell_of_row _ _ 0 _ _ _ (cells_new wr 27 #[.int .u64 (oo : Int)])).trans rfl))
                obtain ⟨ows5, hows⟩ : ∃ ows5, ows5 = ows ++ [oo] := ⟨_, rfl⟩
                obtain ⟨l5, hl5⟩ : ∃ l5, l5 = l + 1 := ⟨_, rfl⟩
                have HO5 : Hid (oo ∈ ows5) := Lib.hid (by rw [hows]; simp)
                have HG5 : Hid (Good S ows5) := Lib.hid ⟨HEG.out.inv, HEG.out.stuck, HEG.out.ac, fun o k => by rw [hows]; exact List.mem_append.2 (.inl (HEG.out.known o k))⟩
                have HT5 : Hid (∀ o ∈ ows5, o < top) := Lib.hid (fun o ho => by
                  rw [hows] at ho
                  rcases List.mem_append.1 ho with ho | ho
                  · exact HET.out o ho
                  · rw [List.mem_singleton] at ho; rw [ho]; exact HDB.out.top)
                have HLL5 : Hid (l5 = ows5.length) := Lib.hid (by rw [hows, hl5, List.length_append, HLL.out]; rfl)
                have hb5 : l5 ≤ j + 1 := by omega
                have HUU : Hid (u64s ows5 = u64s ows ++ u64s [oo]) := Lib.hid (by rw [hows]; exact List.map_append)
                have HL5E := Lib.hid hl5
                clear hows hl5
                have hle5 := live_le HLQ.out
                by_cases hr : (askF S oo nm mm).2 = 10
                · have HV0 := Lib.hid (vics_start HG5.out hle5 HO5.out nm mm)
                  have HASK : Hid (∀ (w : World) (A : Nat → Prop), Live W w g S N A → Calls Try.prog 13 #[.pointer (some ⟨g, 0, none⟩), .int .u64 (oo : Int), .string nm, .int .i64 mm] w (Goes W w g (askF S oo nm mm).1 (N + 1) A (.int .i64 10))) := Lib.hid (fun w A h => by rw [← hr]; exact live_ask_all h (by omega) HDB.out.top HDB.out.size mm)
                  clear hr hle5
                  go_wp2_with (first
                    | (go_at_call 13; refine (HASK.out _ _ HL5.out).mono ?_; rintro e6 w6 ⟨rfl, h6, k6⟩; have HL6 := Lib.hid h6; have HC6 := Lib.hid (cells_kept HC5.out (k6 D (.inr rfl))); have HS6 := Lib.hid (slc_same HS5.out (fun b e => k6 b (.inl e))); clear h6 k6)
                    | (refine wpList_slc HRU.out rfl (.tmp 61) (.tmp 64) 29 rfl rfl rfl HSA.out HSR.out rfl (by unfold maxLen; omega) (by omega) ?_; intro ao5 cap5 bo5 w5 g1 g2 g3; have HS5 : Hid (Slc w5 bo5 1 (.slice ao5 l5 cap5) l5 (u64s ows5)) := Lib.hid (by rw [HUU.out, HL5E.out]; exact g1); have hlap := live_append (live_on HLQ.out (below_alloc wr (.cells #[.int .u64 (oo : Int)] 27))) HEL.out g2 g3 (slc_lt HS5.out); have HL5 := Lib.hid hlap.1; have HLO5 := Lib.hid hlap.2; have HC5 : Hid (Cells w5 D 45 #[.int .i64 dd, .int .u64 (oo : Int), .string nm, .int .i64 mm]) := Lib.hid (cells_kept HCQ.out ((g2.block D (Nat.lt_of_lt_of_le (cells_lt HCQ.out) (below_alloc wr _).size) (fun e => HDNE.out e)).trans ((below_alloc wr _).block D (cells_lt HCQ.out)))); obtain ⟨f4, f5, f6⟩ := HCE.out _ HC5.out; rw [← HL5E.out]; clear g1 g2 g3 hlap))
                  go_loopw [9] (fun i9 wv => ∃ (q : Nat) (S2 : St), q ≤ l5 ∧ i9 = .int .i64 (q : Int) ∧ Hid (Live W wv g S2 (N + 1) (fun k => bo5 = some k ∨ k = D)) ∧ Hid (Vics S S2 ows5 oo q) ∧ Hid (Slc wv bo5 1 (.slice ao5 l5 cap5) l5 (u64s ows5)) ∧ Hid (Cells wv D 45 #[.int .i64 dd, .int .u64 (oo : Int), .string nm, .int .i64 mm])) (fun i9 _ => l5 + 1 - (intOf i9).toNat)
                  case atStart => exact ⟨0, _, Nat.zero_le _, rfl, HL6, HV0, HS6, HC6⟩
                  case round =>
                    obtain ⟨q, S2, hq, rfl, hLv, hV, hSv, hCv⟩ := hrel
                    obtain ⟨f1, f2, f3⟩ := HCE.out _ hCv.out
                    have HVI := Lib.hid (live_victim hLv.out hV.out.inv (by omega) HDB.out.top)
                    by_cases hring : TE S2 oo oo
                    · have HRG := Lib.hid hring
                      clear hring
                      have HQL : Hid (∀ v, (S2.waits v).2 ≠ 0 → q < l5) := Lib.hid (fun v hv => by have := vics_lt hV.out hv; have := HLL5.out; omega)
                      have hql : q < l5 := HQL.out oo (te_head HRG.out)
                      have dql : ((q : Int) == (l5 : Int)) = false := by simp; omega
                      go_wp2_with (first
                        | (go_at_call 18; refine HVI.out.mono ?_; rintro e7 w7 ⟨hb7, hv7⟩; obtain ⟨-, G, rfl, hG, -⟩ := hv7.resolve_left (fun h => h.1 HRG.out); have HGW := Lib.hid (ring_waits HRG.out hG); have HL7 := Lib.hid (live_on hLv.out hb7); have HC7 := Lib.hid (cells_kept hCv.out (hb7.block D (cells_lt hCv.out))); have HS7 := Lib.hid (slc_below hSv.out hb7); have HFR := Lib.hid (live_free_all HL7.out hV.out.inv (by omega) (live_top HL7.out hV.out.inv HGW.out)); clear hb7 hv7 hG)
                        | (go_at_call 16; refine HFR.out.mono ?_; rintro e8 w8 ⟨ns, S3, outs, v8, b8, rfl, n8, a8, h8, -, -, -, k8⟩; have HL8 := Lib.hid h8; have HC8 := Lib.hid (cells_kept HC7.out (k8 D (.inr rfl))); have HS8 := Lib.hid (slc_same HS7.out (fun b e => k8 b (.inl e))); have HV8 := Lib.hid (vics_next hV.out HGW.out (free_res hV.out.inv n8 a8)); clear h8 k8 n8 a8))
                      go_roundw
                      case rel => exact ⟨q + 1, S3, by omega, by go_num, HL8, HV8, HS8, HC8⟩
                      case measure => simp [intOf]; omega
                    · have HRG := Lib.hid hring
                      clear hring
                      go_wp2_with (go_at_call 18; refine HVI.out.mono ?_; rintro e7 w7 ⟨hb7, hv7⟩; obtain ⟨-, rfl⟩ := hv7.resolve_right (fun h => HRG.out h.1); have HL7 := Lib.hid (live_on hLv.out hb7); have HS7 := Lib.hid (slc_below hSv.out hb7); clear hb7 hv7)
                      go_roundw
                      case rel => exact ⟨j + 1, N + 1, S2, ows5, bo5, by omega, by go_num, Lib.hid ⟨live_mono HL7.out (fun _ h => .inl h) (Nat.le_refl _), by rw [← HLL5.out]; exact HS7.out, vics_end hV.out HRG.out, HT5.out, HLO5.out⟩, by omega, by have := HLL5.out; omega⟩
                      case measure => simp [intOf]; omega
                · have HG6 := Lib.hid (good_ask HG5.out hle5 HO5.out nm mm hr)
                  obtain ⟨r, hrr⟩ : ∃ r, r = (askF S oo nm mm).2 := ⟨_, rfl⟩
                  have HASK : Hid (∀ (w : World) (A : Nat → Prop), Live W w g S N A → Calls Try.prog 13 #[.pointer (some ⟨g, 0, none⟩), .int .u64 (oo : Int), .string nm, .int .i64 mm] w (Goes W w g (askF S oo nm mm).1 (N + 1) A (.int .i64 r))) := Lib.hid (fun w A h => by rw [hrr]; exact live_ask_all h (by omega) HDB.out.top HDB.out.size mm)
                  have dr : (r != 10) = true := by rw [hrr]; simpa using hr
                  clear hr hrr hle5
                  go_wp2_with (first
                    | (go_at_call 13; refine (HASK.out _ _ HL5.out).mono ?_; rintro e6 w6 ⟨rfl, h6, k6⟩; have HL6 := Lib.hid h6; have HS6 := Lib.hid (slc_same HS5.out (fun b e => k6 b (.inl e))); clear h6 k6)
                    | (refine wpList_slc HRU.out rfl (.tmp 61) (.tmp 64) 29 rfl rfl rfl HSA.out HSR.out rfl (by unfold maxLen; omega) (by omega) ?_; intro ao5 cap5 bo5 w5 g1 g2 g3; have HS5 : Hid (Slc w5 bo5 1 (.slice ao5 l5 cap5) l5 (u64s ows5)) := Lib.hid (by rw [HUU.out, HL5E.out]; exact g1); have hlap := live_append (live_on HLQ.out (below_alloc wr (.cells #[.int .u64 (oo : Int)] 27))) HEL.out g2 g3 (slc_lt HS5.out); have HL5 := Lib.hid hlap.1; have HLO5 := Lib.hid hlap.2; have HC5 : Hid (Cells w5 D 45 #[.int .i64 dd, .int .u64 (oo : Int), .string nm, .int .i64 mm]) := Lib.hid (cells_kept HCQ.out ((g2.block D (Nat.lt_of_lt_of_le (cells_lt HCQ.out) (below_alloc wr _).size) (fun e => HDNE.out e)).trans ((below_alloc wr _).block D (cells_lt HCQ.out)))); obtain ⟨f4, f5, f6⟩ := HCE.out _ HC5.out; rw [← HL5E.out]; clear g1 g2 g3 hlap))
                  go_roundw
                  case rel => exact ⟨j + 1, N + 1, _, ows5, bo5, by omega, by go_num, Lib.hid ⟨live_mono HL6.out (fun _ h => .inl h) (Nat.le_refl _), by rw [← HLL5.out]; exact HS6.out, HG6.out, HT5.out, HLO5.out⟩, by omega, by have := HLL5.out; omega⟩
                  case measure => simp [intOf]; omega
              · obtain ⟨ao5, hao⟩ : ∃ ao5, ao5 = ao := ⟨_, rfl⟩
                have HS5 := HSQ; have HL5 := HLQ; have HC5 := HCQ; have HLO5 := HEL; have HG5 := HEG; have HT5 := HET; have HLL5 := HLL
                have HO5 : Hid (oo ∈ ows) := Lib.hid (HKB.out.1 (by trivial))
                have hb5 : l ≤ j + 1 := by omega
                clear hao
                have hle5 := live_le HLQ.out
                by_cases hr : (askF S oo nm mm).2 = 10
                · have HV0 := Lib.hid (vics_start HG5.out hle5 HO5.out nm mm)
                  have HASK : Hid (∀ (w : World) (A : Nat → Prop), Live W w g S N A → Calls Try.prog 13 #[.pointer (some ⟨g, 0, none⟩), .int .u64 (oo : Int), .string nm, .int .i64 mm] w (Goes W w g (askF S oo nm mm).1 (N + 1) A (.int .i64 10))) := Lib.hid (fun w A h => by rw [← hr]; exact live_ask_all h (by omega) HDB.out.top HDB.out.size mm)
                  clear hr hle5
                  go_wp2_with (first
                    | (go_at_call 13; refine (HASK.out _ _ HL5.out).mono ?_; rintro e6 w6 ⟨rfl, h6, k6⟩; have HL6 := Lib.hid h6; have HC6 := Lib.hid (cells_kept HC5.out (k6 D (.inr rfl))); have HS6 := Lib.hid (slc_same HS5.out (fun b e => k6 b (.inl e))); clear h6 k6))
                  go_loopw [9] (fun i9 wv => ∃ (q : Nat) (S2 : St), q ≤ l ∧ i9 = .int .i64 (q : Int) ∧ Hid (Live W wv g S2 (N + 1) (fun k => bo = some k ∨ k = D)) ∧ Hid (Vics S S2 ows oo q) ∧ Hid (Slc wv bo 1 (.slice ao l cp) l (u64s ows)) ∧ Hid (Cells wv D 45 #[.int .i64 dd, .int .u64 (oo : Int), .string nm, .int .i64 mm])) (fun i9 _ => l + 1 - (intOf i9).toNat)
                  case atStart => exact ⟨0, _, Nat.zero_le _, rfl, HL6, HV0, HS6, HC6⟩
                  case round =>
                    obtain ⟨q, S2, hq, rfl, hLv, hV, hSv, hCv⟩ := hrel
                    obtain ⟨f1, f2, f3⟩ := HCE.out _ hCv.out
                    have HVI := Lib.hid (live_victim hLv.out hV.out.inv (by omega) HDB.out.top)
                    by_cases hring : TE S2 oo oo
                    · have HRG := Lib.hid hring
                      clear hring
                      have HQL : Hid (∀ v, (S2.waits v).2 ≠ 0 → q < l) := Lib.hid (fun v hv => by have := vics_lt hV.out hv; have := HLL5.out; omega)
                      have hql : q < l := HQL.out oo (te_head HRG.out)
                      have dql : ((q : Int) == (l : Int)) = false := by simp; omega
                      go_wp2_with (first
                        | (go_at_call 18; refine HVI.out.mono ?_; rintro e7 w7 ⟨hb7, hv7⟩; obtain ⟨-, G, rfl, hG, -⟩ := hv7.resolve_left (fun h => h.1 HRG.out); have HGW := Lib.hid (ring_waits HRG.out hG); have HL7 := Lib.hid (live_on hLv.out hb7); have HC7 := Lib.hid (cells_kept hCv.out (hb7.block D (cells_lt hCv.out))); have HS7 := Lib.hid (slc_below hSv.out hb7); have HFR := Lib.hid (live_free_all HL7.out hV.out.inv (by omega) (live_top HL7.out hV.out.inv HGW.out)); clear hb7 hv7 hG)
                        | (go_at_call 16; refine HFR.out.mono ?_; rintro e8 w8 ⟨ns, S3, outs, v8, b8, rfl, n8, a8, h8, -, -, -, k8⟩; have HL8 := Lib.hid h8; have HC8 := Lib.hid (cells_kept HC7.out (k8 D (.inr rfl))); have HS8 := Lib.hid (slc_same HS7.out (fun b e => k8 b (.inl e))); have HV8 := Lib.hid (vics_next hV.out HGW.out (free_res hV.out.inv n8 a8)); clear h8 k8 n8 a8))
                      go_roundw
                      case rel => exact ⟨q + 1, S3, by omega, by go_num, HL8, HV8, HS8, HC8⟩
                      case measure => simp [intOf]; omega
                    · have HRG := Lib.hid hring
                      clear hring
                      go_wp2_with (go_at_call 18; refine HVI.out.mono ?_; rintro e7 w7 ⟨hb7, hv7⟩; obtain ⟨-, rfl⟩ := hv7.resolve_right (fun h => HRG.out h.1); have HL7 := Lib.hid (live_on hLv.out hb7); have HS7 := Lib.hid (slc_below hSv.out hb7); clear hb7 hv7)
                      go_roundw
                      case rel => exact ⟨j + 1, N + 1, S2, ows, bo, by omega, by go_num, Lib.hid ⟨live_mono HL7.out (fun _ h => .inl h) (Nat.le_refl _), by rw [← HLL5.out]; exact HS7.out, vics_end hV.out HRG.out, HT5.out, HLO5.out⟩, by omega, by have := HLL5.out; omega⟩
                      case measure => simp [intOf]; omega
                · have HG6 := Lib.hid (good_ask HG5.out hle5 HO5.out nm mm hr)
                  obtain ⟨r, hrr⟩ : ∃ r, r = (askF S oo nm mm).2 := ⟨_, rfl⟩
                  have HASK : Hid (∀ (w : World) (A : Nat → Prop), Live W w g S N A → Calls Try.prog 13 #[.pointer (some ⟨g, 0, none⟩), .int .u64 (oo : Int), .string nm, .int .i64 mm] w (Goes W w g (askF S oo nm mm).1 (N + 1) A (.int .i64 r))) := Lib.hid (fun w A h => by rw [hrr]; exact live_ask_all h (by omega) HDB.out.top HDB.out.size mm)
                  have dr : (r != 10) = true := by rw [hrr]; simpa using hr
                  clear hr hrr hle5
                  go_wp2_with (first
                    | (go_at_call 13; refine (HASK.out _ _ HL5.out).mono ?_; rintro e6 w6 ⟨rfl, h6, k6⟩; have HL6 := Lib.hid h6; have HS6 := Lib.hid (slc_same HS5.out (fun b e => k6 b (.inl e))); clear h6 k6))
                  go_roundw
                  case rel => exact ⟨j + 1, N + 1, _, ows, bo, by omega, by go_num, Lib.hid ⟨live_mono HL6.out (fun _ h => .inl h) (Nat.le_refl _), by rw [← HLL5.out]; exact HS6.out, HG6.out, HT5.out, HLO5.out⟩, by omega, by have := HLL5.out; omega⟩
                  case measure => simp [intOf]; omega
    · have hjn : n = j := by omega
      subst hjn
      have HLV := Lib.hid hE.out.live; have HGD := Lib.hid hE.out.good; have HTP := Lib.hid hE.out.tops
      have HNN : Hid (N < 5000000000000) := Lib.hid (by omega)
      have hll : l ≤ 5000000000000 := by omega
      clear L0 hlt hNj hoj hj hE
      go_wp2
      obtain ⟨V0, hV0⟩ : ∃ V0, V0 = wr := ⟨_, rfl⟩
      rw [← hV0] at HLV HSL0
      have HB0 : Hid (Below V0.heap.size V0 wr) := Lib.hid (by rw [hV0]; exact Below.refl _ _)
      clear hV0
      have HOW : Hid (∀ (w : World) (i : Nat), Slc w bo 1 (.slice ao l cp) l (u64s ows) → i < l → ∃ (o bz oz : Nat), ao = some ⟨bz, oz, none⟩ ∧ w.cell? ⟨bz, oz + i, none⟩ = some (.int .u64 (o : Int)) ∧ ows[i]? = some o ∧ o < top) := Lib.hid (fun w i h hi => by
        have hil : i < ows.length := by rw [← HLL.out]; exact hi
        obtain ⟨bz, oz, e, hc⟩ := slc_at h (j := i) (u := .int .u64 (ows[i] : Int)) (by rw [u64s, List.getElem?_map, List.getElem?_eq_getElem hil]; rfl) hi
        exact ⟨ows[i], bz, oz, e, hc, List.getElem?_eq_getElem hil, HTP.out _ (List.getElem_mem hil)⟩)
      go_loopw [12] (fun i12 wq => ∃ i : Nat, i ≤ l ∧ i12 = .int .i64 (i : Int) ∧ Hid (Below V0.heap.size V0 wq)) (fun i12 _ => l - (intOf i12).toNat)
      case atStart => exact ⟨0, Nat.zero_le _, rfl, HB0⟩
      case round =>
        obtain ⟨i, hi, rfl, hB⟩ := hrel
        by_cases hil : i < l
        · obtain ⟨o, bz, oz, rfl, hcz, -, hot⟩ := HOW.out _ i (slc_below HSL0.out hB.out) hil
          have HVI := Lib.hid (live_victim (live_on HLV.out hB.out) HGD.out.inv (by have := HNN.out; omega) hot)
          clear hot
          go_wp2_with (go_at_call 18; refine HVI.out.mono ?_; rintro e7 w7 ⟨hb7, hv7⟩; obtain ⟨-, rfl⟩ := hv7.resolve_right (fun h => HGD.out.ac _ h.1); have HB7 := Lib.hid (hB.out.trans (hb7.mono hB.out.size)); clear hb7 hv7)
          go_roundw
          case rel => exact ⟨i + 1, by omega, by go_num, HB7⟩
          case measure => simp [intOf]; omega
        · have hil2 : l = i := by omega
          subst hil2
          have HL1 := Lib.hid (live_on HLV.out hB.out)
          have HS1 := Lib.hid (slc_below HSL0.out hB.out)
          have HR1 := Lib.hid (rnds_start HGD.out)
          clear hil hi
          go_wp2
          clear HB0 hB
          go_loopw [15] (fun i15 wq => ∃ (r : Nat) (S2 : St), r ≤ l + 1 ∧ i15 = .int .i64 (r : Int) ∧ Hid (Live W wq g S2 N (fun k => bo = some k)) ∧ Hid (Rnds S2 ows r) ∧ Hid (Slc wq bo 1 (.slice ao l cp) l (u64s ows))) (fun i15 _ => l + 1 - (intOf i15).toNat)
          case atStart => exact ⟨0, S, by omega, rfl, HL1, HR1, HS1⟩
          case round =>
            obtain ⟨r, S2, hr, rfl, hL2, hR2, hS2⟩ := hrel
            by_cases hrl : r ≤ l
            · have HR0 := Lib.hid (rnd_start hR2.out.good)
              go_wp2
              go_loopw [16] (fun i16 wq => ∃ (i : Nat) (S3 : St), i ≤ l ∧ i16 = .int .i64 (i : Int) ∧ Hid (Live W wq g S3 N (fun k => bo = some k)) ∧ Hid (Rnd S2 S3 ows i) ∧ Hid (Slc wq bo 1 (.slice ao l cp) l (u64s ows))) (fun i16 _ => l - (intOf i16).toNat)
              case atStart => exact ⟨0, S2, Nat.zero_le _, rfl, hL2, HR0, hS2⟩
              case round =>
                obtain ⟨i, S3, hi, rfl, hL3, hR3, hS3⟩ := hrel
                by_cases hil : i < l
                · obtain ⟨o, bz, oz, rfl, hcz, hoi, hot⟩ := HOW.out _ i hS3.out hil
                  have HOI := Lib.hid hoi; have HOT := Lib.hid hot
                  have HWT := Lib.hid (live_waits hL3.out hot)
                  by_cases hw : (S3.waits o).2 = 0
                  · have HWT0 : Hid (WaitsTells wr (S3.waits o) = fun e w' => Below wr.heap.size wr w' ∧ e = .returned (.tuple #[.agg #[.string ⟨#[]⟩, .int .i64 0], .bool false])) := Lib.hid (by unfold WaitsTells; rw [if_pos hw])
                    rw [HWT0.out] at HWT
                    have HW := Lib.hid hw
                    clear hw hoi hot
                    go_wp2_with (first
                      | (go_at_call 26; refine HWT.out.mono ?_; rintro e4 w4 ⟨hb4, rfl⟩; have hb4' := hb4.trans ((below_alloc w4 (.cells #[.string ⟨#[]⟩, .int .i64 0] 35)).mono hb4.size); have HL4 := Lib.hid (live_on hL3.out hb4'); have HS4 := Lib.hid (slc_below hS3.out hb4'); obtain ⟨o9, bz9, oz9, e9, hcz9, ho9, -⟩ := HOW.out _ i HS4.out hil; cases e9; obtain rfl : o9 = o := Option.some.inj (ho9.symm.trans HOI.out); have HFR := Lib.hid (live_free_all HL4.out hR3.out.good.inv (by have := HNN.out; omega) HOT.out); clear hb4 hb4' ho9)
                      | (go_at_call 16; refine HFR.out.mono ?_; rintro e8 w8 ⟨ns, S4, outs, v8, b8, rfl, n8, a8, h8, -, -, -, k8⟩; have HL8 := Lib.hid h8; have HS8 := Lib.hid (slc_same HS4.out (fun b e => k8 b e)); have HR8 := Lib.hid (rnd_free hR3.out HOI.out HW.out (free_res hR3.out.good.inv n8 a8)); clear h8 k8 n8 a8))
                    go_roundw
                    case rel => exact ⟨i + 1, S4, by omega, by go_num, HL8, HR8, HS8⟩
                    case measure => simp [intOf]; omega
                  · have HWT0 : Hid (WaitsTells wr (S3.waits o) = fun e w' => Below wr.heap.size wr w' ∧ e = .returned (.tuple #[.agg #[.string (S3.waits o).1, .int .i64 ((S3.waits o).2 : Int)], .bool true])) := Lib.hid (by unfold WaitsTells; rw [if_neg hw])
                    rw [HWT0.out] at HWT
                    have HW := Lib.hid hw
                    clear hw hoi hot
                    go_wp2_with (go_at_call 26; refine HWT.out.mono ?_; rintro e4 w4 ⟨hb4, rfl⟩; have hb4' := hb4.trans ((below_alloc w4 (.cells #[.string (S3.waits o).1, .int .i64 ((S3.waits o).2 : Int)] 35)).mono hb4.size); have HL4 := Lib.hid (live_on hL3.out hb4'); have HS4 := Lib.hid (slc_below hS3.out hb4'); clear hb4 hb4')
                    go_roundw
                    case rel => exact ⟨i + 1, S3, by omega, by go_num, HL4, Lib.hid (rnd_skip hR3.out HOI.out HW.out), HS4⟩
                    case measure => simp [intOf]; omega
                · have hil2 : l = i := by omega
                  subst hil2
                  have HR4 := Lib.hid (rnds_next hR2.out (by have := hR3.out; rw [HLL.out] at this; exact this))
                  go_wp2
                  go_roundw
                  case rel => exact ⟨r + 1, S3, by omega, by go_num, hL3, HR4, hS3⟩
                  case measure => simp [intOf]; omega
            · have hrl2 : r = l + 1 := by omega
              have HFIN : Hid (Fin0 S2) := Lib.hid (rnds_end (by have := hR2.out; rw [hrl2, HLL.out] at this; exact this))
              clear hrl2
              go_wp2
              obtain ⟨V1, hV1⟩ : ∃ V1, V1 = wr := ⟨_, rfl⟩
              rw [← hV1] at hL2 hS2
              have HB1 : Hid (Below V1.heap.size V1 wr) := Lib.hid (by rw [hV1]; exact Below.refl _ _)
              clear hV1
              go_loopw [19] (fun i19 wq => ∃ i : Nat, i ≤ l ∧ i19 = .int .i64 (i : Int) ∧ Hid (Below V1.heap.size V1 wq)) (fun i19 _ => l - (intOf i19).toNat)
              case atStart => exact ⟨0, Nat.zero_le _, rfl, HB1⟩
              case round =>
                obtain ⟨i, hi, rfl, hB⟩ := hrel
                by_cases hil : i < l
                · obtain ⟨o, bz, oz, rfl, hcz, hoi, hot⟩ := HOW.out _ i (slc_below hS2.out hB.out) hil
                  have HOI := Lib.hid hoi; have HOT := Lib.hid hot
                  have HWT := Lib.hid (live_waits (live_on hL2.out hB.out) hot)
                  have HWT0 : Hid (WaitsTells wr (S2.waits o) = fun e w' => Below wr.heap.size wr w' ∧ e = .returned (.tuple #[.agg #[.string ⟨#[]⟩, .int .i64 0], .bool false])) := Lib.hid (by unfold WaitsTells; rw [if_pos (HFIN.out o).1])
                  rw [HWT0.out] at HWT
                  clear hoi hot
                  go_wp2_with (first
                    | (go_at_call 26; refine HWT.out.mono ?_; rintro e4 w4 ⟨hb4, rfl⟩; have hb4' := hb4.trans ((below_alloc w4 (.cells #[.string ⟨#[]⟩, .int .i64 0] 35)).mono hb4.size); have HB4 := Lib.hid (hB.out.trans (hb4'.mono hB.out.size)); obtain ⟨o9, bz9, oz9, e9, hcz9, ho9, -⟩ := HOW.out _ i (slc_below hS2.out HB4.out) hil; cases e9; obtain rfl : o9 = o := Option.some.inj (ho9.symm.trans HOI.out); have HHE := Lib.hid (live_held (live_on hL2.out HB4.out) HNN.out HOT.out); clear hb4 hb4' ho9)
                    | (go_at_call 17; refine HHE.out.mono ?_; rintro e5 w5 ⟨v5, b5, ns, rfl, hns, hs5, hb5, -⟩; obtain rfl : ns = [] := held_none hR2.out.good.inv HFIN.out hns; obtain ⟨a5, c5, rfl, -⟩ := slc_form hs5; have HB5 := Lib.hid (HB4.out.trans (hb5.mono HB4.out.size)); clear hs5 hb5 hns))
                  go_roundw
                  case rel => exact ⟨i + 1, by omega, by go_num, HB5⟩
                  case measure => simp [intOf]; omega
                · go_wp2
                  go_ret
                  exact ⟨rfl, hL2.out.below.trans (hB.out.mono hL2.out.below.size)⟩
end Go.Proofs.Ythanjncpgcmnaaa

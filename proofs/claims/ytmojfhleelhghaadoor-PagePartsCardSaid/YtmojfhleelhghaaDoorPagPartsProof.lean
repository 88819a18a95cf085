/-
  PageParts of layer 5 holds: any page: its parts, whether it is good, whether its sum is right; a page of any kind; both numbers set (P5.1, P5.4), for every argument within the form's own reach; the package-level table of package sum is tied to the program's text.
-/
import Derived.Test.YtmojfhleelhghaaDoorPagRows
import Derived.Test.YtmojfhleelhghaaDoorPagPartsA
import Derived.Test.YtmojfhleelhghaaDoorPagPartsB
namespace Go.Proofs.YtmojfhleelhghaaDoor.pageParts
open Go.ChangeShapes Go.WideShapes Go.ChangeAt Go.RowKit

theorem is_comp {w : World} {R : List Nat} {e : Ending} {w' : World} (hl : R.length = 512) (hz : ∀ c ∈ R, c < 256) (h : CompOut w R e w') : Is w R 512 e w' := by
  obtain ⟨g, c, rfl, hh, _, _, _, hb⟩ := h
  exact ⟨_, _, rfl, hl, has_bytes hh hz (page_len hl), hb⟩
theorem new_arg (kind : Int) (h : kind < 0 ∨ 255 < kind) (w : World) : Calls Tryd.prog 8 #[.int .i64 kind] w fun e w' => e = .returned (.tuple #[.slice none 0 0, .int .i64 1]) ∧ Below w.heap.size w w' := by
  by_cases h0 : kind < 0
  · have d1 : decide (kind < 0) = true := decide_eq_true h0
    go_enter Tryd.func8, Tryd.ntmps8
    go_wp2
    go_ret2
    exact ⟨rfl, Below.refl _ _⟩
  · have d1 : decide (kind < 0) = false := decide_eq_false h0
    have h1 : 255 < kind := by omega
    have d2 : decide (255 < kind) = true := decide_eq_true h1
    go_enter Tryd.func8, Tryd.ntmps8
    go_wp2
    go_ret2
    exact ⟨rfl, Below.refl _ _⟩
theorem tells_cell {w : World} {R : List Nat} {e : Ending} {w' : World} (hz : ∀ c ∈ R, c < 256) (hm : R.length ≤ 512) (h : ∃ v, e = .returned (.tuple #[v, .int .i64 0]) ∧ BytesOut w R v w') : Tells w R R.length 0 e w' := by
  obtain ⟨v, rfl, g, rfl, hc, _, hb⟩ := h
  exact ⟨_, _, rfl, rfl, cells_bytes hc hz (by unfold maxLen; omega), hb⟩
theorem kinds (kind : Int) (w : World) : ∃ (bK : Bool) (kN : Nat) (nN : Int) (RN : List Nat), (∀ V, Below w.heap.size w V → Calls Tryd.prog 8 #[.int .i64 kind] V (Tells V RN kN nN)) ∧
    ((bK = true ∧ (kind < 0 ∨ 255 < kind) ∧ kN = 0 ∧ nN = 1) ∨ (bK = false ∧ (0 ≤ kind ∧ kind ≤ 255) ∧ nN = 0 ∧ ∀ V, Below w.heap.size w V → Calls Tryd.prog 23 #[.int .i64 kind] V (Is V RN kN))) := by
  by_cases hk : kind < 0 ∨ 255 < kind
  · exact ⟨true, 0, 1, [], fun V _ => (new_arg kind hk V).mono (fun e w' h => tells_no 1 h), .inl ⟨rfl, hk, rfl, rfl⟩⟩
  · obtain ⟨k, rfl⟩ := Int.eq_ofNat_of_zero_le (show 0 ≤ kind by omega)
    have h256 : k < 256 := by omega
    have hl : (wr noughts (newHd k)).length = 512 := by rw [wr_length]; unfold noughts; exact List.length_replicate
    have hz : ∀ c ∈ wr noughts (newHd k), c < 256 := wr_bytes (fun c hc => by unfold noughts at hc; rw [List.mem_replicate] at hc; omega) ⟨by show 0 < _; omega, by show 0 < _; omega, by show 0 < _; omega, by show 0 < _; omega, h256, by show 0 < _; omega, by show 0 < _; omega, by show 512 < _; omega⟩
    exact ⟨false, 512, 0, wr noughts (newHd k), fun V _ => (new_any k h256 V).mono (fun e w' h => tells_page hl hz h), .inr ⟨rfl, ⟨by omega, by omega⟩, rfl, fun V _ => (ref_new k h256 V).mono (fun e w' h => is_comp hl hz h)⟩⟩
theorem walk (a : Option Addr) (len cap : Nat) (l : List Nat) (kind i link extra : Int) (n : Int) (wn : (Lit.int .u64 n).wf = true) (w : World) (hin : InAt w a len cap l) (hT : TabAt w) :
    Calls Tryd.prog 4 #[.slice a len cap, .int .i64 kind, .int .i64 i, .int .i64 link, .int .i64 extra, .int .u64 n] w (True' w) := by
  obtain ⟨rfl, hlc, hcm, ha, hb⟩ := hin
  have hn := bounds_u64 wn
  obtain ⟨n, rfl⟩ := Int.eq_ofNat_of_zero_le hn.1
  have hn64 : n < 18446744073709551616 := by omega
  have hc63 : cap ≤ 9223372036854775807 := by unfold maxLen at hcm; omega
  have hz := hb.1
  obtain ⟨bK, kN, nN, RN, HN, hK⟩ := kinds kind w
  have HCk : ∀ V, Below w.heap.size w V → Calls Tryd.prog 15 #[.slice a l.length cap] V fun e w' => ∃ c, e = .returned (.int .i64 c) ∧ checkOf l c ∧ Below V.heap.size V w' := fun V hV => by
    by_cases hl : l.length = 512
    · obtain ⟨b, off, rfl, _⟩ := hb.2.2 0 (by omega)
      have h := check_any (cap := cap) (bytes_below hb hV) hl (by omega) (tab_below hT hV)
      rw [hl]
      exact h
    · exact check_short (bytes_below hb hV) hl
  have HCr : ∀ V, Below w.heap.size w V → Calls Tryd.prog 19 #[.slice a l.length cap] V fun e w' => ∃ c, e = .returned (.int .i64 c) ∧ checkOf l c ∧ Below V.heap.size V w' := fun V hV => ref_check (bytes_below hb hV) hlc hc63
  by_cases hg : Good l
  · have hl : l.length = 512 := hg.1
    obtain ⟨b, off, rfl, hc0⟩ := hb.2.2 0 (by omega)
    rw [hl] at hlc HCk HCr ⊢
    have h1 := hg.2.2.1
    have h2 := hg.2.2.2.1
    have hF := hdOf_fits hz (by omega : 26 ≤ l.length)
    obtain ⟨bI, kC, nC, RC, HCl, hI⟩ : ∃ (bI : Bool) (kC : Nat) (nC : Int) (RC : List Nat), (∀ V, Below w.heap.size w V → Calls Tryd.prog 17 #[.slice (some ⟨b, off, none⟩) 512 cap, .int .i64 i] V (Tells V RC kC nC)) ∧
        ((bI = true ∧ (i < 0 ∨ (rd l 14 2 : Int) ≤ i) ∧ kC = 0 ∧ nC = 1) ∨ (bI = false ∧ (0 ≤ i ∧ i < (rd l 14 2 : Int)) ∧ nC = 0 ∧ ∃ h : i.toNat < ((List.range (rd l 14 2)).map (cellOf l)).length, RC = ((List.range (rd l 14 2)).map (cellOf l))[i.toNat])) := by
      by_cases hi : i < 0 ∨ (rd l 14 2 : Int) ≤ i
      · exact ⟨true, 0, 1, [], fun V hV => (cell_arg i (bytes_below hb hV) hg hi).mono (fun e w' h => tells_no 1 h), .inl ⟨rfl, hi, rfl, rfl⟩⟩
      · obtain ⟨j, rfl⟩ := Int.eq_ofNat_of_zero_le (show 0 ≤ i by omega)
        have hsh := short_cells hz hl (rd l 14 2) (cellOf l j) (List.mem_map.2 ⟨j, List.mem_range.2 (by omega), rfl⟩)
        exact ⟨false, (cellOf l j).length, 0, cellOf l j, fun V hV => (Cell_any (cap := cap) j (bytes_below hb hV) hg hlc hc63 (by omega)).mono (fun e w' h => tells_cell hsh.1 hsh.2 h), .inr ⟨rfl, ⟨by omega, by omega⟩, rfl, by simp; omega, by simp⟩⟩
    obtain ⟨bZ, kZ, nZ, RZ, HSt, hZ⟩ : ∃ (bZ : Bool) (kZ : Nat) (nZ : Int) (RZ : List Nat), (∀ V, Below w.heap.size w V → Calls Tryd.prog 25 #[.slice (some ⟨b, off, none⟩) 512 cap, .int .i64 link, .int .i64 extra] V (Tells V RZ kZ nZ)) ∧
        ((bZ = true ∧ (link < 0 ∨ 4294967295 < link ∨ extra < 0 ∨ 4294967295 < extra) ∧ RZ = [] ∧ nZ = 1) ∨ (bZ = false ∧ (0 ≤ link ∧ link ≤ 4294967295 ∧ 0 ≤ extra ∧ extra ≤ 4294967295) ∧ nZ = 0 ∧ ∀ V, Below w.heap.size w V → Calls Tryd.prog 31 #[.slice (some ⟨b, off, none⟩) 512 cap, .int .i64 link, .int .i64 extra] V (Is V RZ kZ))) := by
      by_cases hx : link < 0 ∨ 4294967295 < link ∨ extra < 0 ∨ 4294967295 < extra
      · exact ⟨true, 0, 1, [], fun V hV => by
          have h := (set_arg (cap := cap) link extra hx (bytes_below hb hV) hg).mono (fun e w' h => tells_no 1 h)
          rw [hl] at h
          exact h, .inl ⟨rfl, hx, rfl, rfl⟩⟩
      · obtain ⟨x, rfl⟩ := Int.eq_ofNat_of_zero_le (show 0 ≤ link by omega)
        obtain ⟨y, rfl⟩ := Int.eq_ofNat_of_zero_le (show 0 ≤ extra by omega)
        have hll : (linked l x y).length = 512 := by rw [linked_length]; exact hl
        have hlb := linked_bytes hz x y
        exact ⟨false, 512, 0, linked l x y, fun V hV => (set_good (cap := cap) x y (by omega) (by omega) (bytes_below hb hV) hg).mono (fun e w' h => tells_page hll hlb (by rw [wr_linked hz (by omega)] at h; exact h)),
          .inr ⟨rfl, ⟨by omega, by omega, by omega, by omega⟩, rfl, fun V hV => (ref_set (cap := cap) x y (by omega) (by omega) (bytes_below hb hV) hl).mono (fun e w' h => is_comp hll hlb h)⟩⟩
    have hXl := relaid_length hg
    have hXb := (relaid_is hz hg).byte
    have hYl : (sealed l n).length = 512 := by rw [sealed, wr_length, wr_length]; exact hl
    have hYb := sealed_bytes hz (by omega : 26 ≤ l.length) n
    have hG : ∀ q S, 1 ≤ S ∧ S ≤ 8 → q + S ≤ 512 → ∀ V, Below w.heap.size w V → Calls Tryd.prog 34 #[.slice (some ⟨b, off, none⟩) 512 cap, .int .i64 ((q : Nat) : Int), .int .i64 ((S : Nat) : Int)] V fun e w' => e = .returned (.int .u64 (rd l q S : Int)) ∧ V = w' := fun q S hS hq V hV => by
      have h := refget_any (some ⟨b, off, none⟩) cap l q S V (bytes_below hb hV) hS (by omega)
      rw [hl] at h
      exact h
    exact parts_good (zs := l) (ls := (List.range (rd l 14 2)).map (cellOf l)) (n := rd l 14 2) (m := 486 - 4 * (rd l 14 2 : Int) - (sizes l (rd l 14 2) : Int)) (kX := 512) (kY := 512) (RX := relaid l (hdOf l)) (RY := sealed l n) (kd := (hdOf l).kind) (sn := rd l 4 8) (lk := rd l 18 4) (ex := rd l 22 4)
      (Lib.hid HN) (Lib.hid (fun V hV => Count_good (bytes_below hb hV) hg)) (Lib.hid (fun V hV => Free_good (bytes_below hb hV) hg)) (Lib.hid HCl) (Lib.hid (fun V hV => cells_good (bytes_below hb hV) hg hlc hc63)) (Lib.hid HCk) (Lib.hid HCr)
      (Lib.hid (fun V hV => by have h := good_yes (cap := cap) (bytes_below hb hV) hg; rw [hl] at h; exact h)) (Lib.hid (fun V hV => by have h := (ref_good (cap := cap) (bytes_below hb hV)).mono (fun e w' h => good_true h hg); rw [hl] at h; exact h)) hK
      (Lib.hid (fun V hV => (compact_good (bytes_below hb hV) hlc hc63 hg).mono (fun e w' h => tells_page hXl hXb h))) (Lib.hid (fun V hV => (seal_good (cap := cap) n hn64 (bytes_below hb hV) hg (tab_below hT hV)).mono (fun e w' h => tells_page hYl hYb h))) (Lib.hid HSt)
      (Lib.hid (fun V hV => by have h := head_good (cap := cap) (bytes_below hb hV) hg; rw [hl] at h; exact h))
      (Lib.hid (fun V hV => ref_count (bytes_below hb hV) hl)) (Lib.hid (fun V hV => ref_free (bytes_below hb hV) hl (by omega))) (Lib.hid (fun V hV => ref_cells (bytes_below hb hV) hl hlc hc63 (good_fitting hg)))
      (short_cells hz hl _) (by omega) (by simp) hI hZ
      (Lib.hid (fun V hV => (ref_compact (bytes_below hb hV) hl hlc hc63 (good_fitting hg)).mono (fun e w' h => is_comp hXl hXb (by rw [refComp_eq hz hg] at h; exact h)))) (Lib.hid (fun V hV => (ref_seal (cap := cap) n hn64 (bytes_below hb hV) hl).mono (fun e w' h => is_comp hYl hYb h)))
      (Lib.hid (hG 4 8 (by decide) (by decide))) (Lib.hid (hG 18 4 (by decide) (by decide))) (Lib.hid (hG 22 4 (by decide) (by decide)))
      (Lib.hid (fun V hV => by
        obtain ⟨b', o', e, hc⟩ := (bytes_below hb hV).2.2 12 (by omega)
        cases e
        rw [hc]
        show some (Value.int .u8 (l[12] : Int)) = some (.int .u8 (l.getD 12 0 : Int))
        rw [List.getD_eq_getElem?_getD, List.getElem?_eq_getElem (by omega)]
        rfl)) hF.2.2.2.2.1 (rd4 hz 18 (by omega)) (rd4 hz 22 (by omega))
  · exact parts_bad (zs := l) (Lib.hid HN) (Lib.hid (fun V hV => Count_bad (bytes_below hb hV) hg)) (Lib.hid (fun V hV => Free_bad (bytes_below hb hV) hg)) (Lib.hid (fun V hV => (Cell_bad (cap := cap) i (bytes_below hb hV) hg).mono (fun e w' h => tells_no 4 h)))
      (Lib.hid (fun V hV => (Cells_bad (cap := cap) (bytes_below hb hV) hg).mono (fun e w' h => tells_no 4 h))) (Lib.hid HCk) (Lib.hid HCr) (Lib.hid (fun V hV => good_no (cap := cap) (bytes_below hb hV) hg)) (Lib.hid (fun V hV => (ref_good (cap := cap) (bytes_below hb hV)).mono (fun e w' h => good_false h hg))) hK
      (Lib.hid (fun V hV => (Compact_bad (cap := cap) (bytes_below hb hV) hg).mono (fun e w' h => tells_no 4 h))) (Lib.hid (fun V hV => (seal_bad (cap := cap) (n : Int) (bytes_below hb hV) hg).mono (fun e w' h => tells_no 4 h))) (Lib.hid (fun V hV => (set_bad (cap := cap) link extra (bytes_below hb hV) hg).mono (fun e w' h => tells_no 4 h)))
      (Lib.hid (fun V hV => head_bad (cap := cap) (bytes_below hb hV) hg))

/-- What the walk gives, for every argument and every world that holds the table. -/
theorem contract (H : Type) (enc : TypeId × Value → H) (W : World) (base : Nat) (args : Array Value) (ds gs : List (DataW H)) (before : List MemPlace)
    (hval0 : ∀ (j : Nat) t v, Tryd.f4.params[j]? = some t → args[j]? = some v → Value.okWide Tryd.prog W .any base t v)
    (hW : DataW.Whole enc Tryd.prog Tryd.f4.params.toList Rows.pagePartsSpec.vars false W args.toList ds gs before) (hL : laidMetH Tryd.prog Rows.pagePartsRow.laid W)
    (hsz0 : (DataW.weightsEach Tryd.prog (Tryd.f4.params.toList ++ (OpenSpec.ofChange Rows.pagePartsSpec).bare.plain.varTypes Tryd.prog) (ds ++ gs)).all (· ≤ reachBytes) = true) :
    Calls Tryd.prog 4 args W fun e W' => ∃ v, e = .returned v ∧ Rows.pagePartsSpec.post enc Tryd.prog Tryd.f4 false true false false W args v W' := by
  have hval : ∀ (j : Nat) t v, Tryd.f4.params[j]? = some t → args[j]? = some v → Value.okWide Tryd.prog W .any base t v := hval0
  have hW' := hW
  obtain ⟨p, q, hA0, hV, rfl, hfz, hnd⟩ := hW
  have hA : DataW.TrodAll enc Tryd.prog W 0 (fun _ => true) true Tryd.f4.params.toList args.toList ds p := hA0
  rw [Tryd.params4] at hA hval hsz0
  obtain ⟨v0, vs0, d0, ds0, p0, q0, hargs, rfl, rfl, h0, r0⟩ := trodAll_cons hA
  obtain ⟨v1, vs1, d1, ds1, p1, q1, rfl, rfl, rfl, h1, r1⟩ := trodAll_cons r0
  obtain ⟨v2, vs2, d2, ds2, p2, q2, rfl, rfl, rfl, h2, r2⟩ := trodAll_cons r1
  obtain ⟨v3, vs3, d3, ds3, p3, q3, rfl, rfl, rfl, h3, r3⟩ := trodAll_cons r2
  obtain ⟨v4, vs4, d4, ds4, p4, q4, rfl, rfl, rfl, h4, r4⟩ := trodAll_cons r3
  obtain ⟨v5, vs5, d5, ds5, p5, q5, rfl, rfl, rfl, h5, r5⟩ := trodAll_cons r4
  obtain ⟨rfl, rfl, rfl⟩ := trodAll_nil r5
  obtain rfl : args = #[v0, v1, v2, v3, v4, v5] := by cases args; simp_all
  obtain ⟨rfl, rfl⟩ := trodVars_none hV
  obtain ⟨a0, len0, cap0, rfl⟩ := okWide_slice Tryd.underlying22 (hval 0 22 v0 rfl rfl)
  have k0 := h0
  have lt0 : ∀ x ∈ p0, x.block < W.heap.size := by obtain ⟨m, hm⟩ := k0; exact DataW.trod_lt m _ _ _ hm
  obtain ⟨l0, w0, reach0⟩ : ∃ l, InAt W a0 len0 cap0 l ∧ cap0 ≤ 140737488351232 := by
    obtain ⟨fuel, hf⟩ := h0
    rcases open_ints Tryd.underlying22 Tryd.underlying5 (by kernel_rfl) hf with ⟨hcs, _⟩ | ⟨x, l, c, zs, hcs, _, hl, hm, hz, hx, hcell, hwz⟩
    · simp [Value.cells] at hcs
      obtain ⟨rfl, rfl, rfl⟩ := hcs
      exact ⟨[], ⟨rfl, Nat.le_refl _, Nat.zero_le _, fun _ => ⟨rfl, rfl⟩, fun c hc => (by cases hc), Nat.zero_le _, fun j hj => absurd hj (Nat.not_lt_zero _)⟩, Nat.zero_le _⟩
    · simp [Value.cells] at hcs
      obtain ⟨rfl, rfl, rfl⟩ := hcs
      have hz' : zs.length = cap0 := by simpa using hz
      have hd : d0 = .slice (lits .u8 (zs.take len0)) (lits .u8 (zs.drop len0)) := congrArg Prod.fst hx
      exact ⟨_, in_of_row hl hm hz' hcell hwz, reach_of (zs := zs) (len := len0) hsz0 rfl (by rw [hd]; rfl) hz'⟩
  obtain ⟨a1, rfl, rfl, rfl, w1⟩ := open_int Tryd.underlying3 (hval 1 3 v1 rfl rfl) h1
  obtain ⟨a2, rfl, rfl, rfl, w2⟩ := open_int Tryd.underlying3 (hval 2 3 v2 rfl rfl) h2
  obtain ⟨a3, rfl, rfl, rfl, w3⟩ := open_int Tryd.underlying3 (hval 3 3 v3 rfl rfl) h3
  obtain ⟨a4, rfl, rfl, rfl, w4⟩ := open_int Tryd.underlying3 (hval 4 3 v4 rfl rfl) h4
  obtain ⟨a5, rfl, rfl, rfl, w5⟩ := open_int Tryd.underlying31 (hval 5 31 v5 rfl rfl) h5
  clear hA0 hval0
  refine (walk a0 len0 cap0 l0 a1 a2 a3 a4 a5 w5 W w0 (table hL)).mono fun e W' ⟨he, bel⟩ => ?_
  subst he
  exact ⟨_, rfl, _, _, _, [], _, [], hW', trodAll_mk1 (shut_bool Tryd.underlying4 _), (trodAll_cons_mk (Below.trod laidOut (by kernel_rfl) (of_decide_eq_true (by kernel_rfl)) k0 bel lt0) (trodAll_cons_mk (shut_int Tryd.underlying3 w1) (trodAll_cons_mk (shut_int Tryd.underlying3 w2) (trodAll_cons_mk (shut_int Tryd.underlying3 w3) (trodAll_cons_mk (shut_int Tryd.underlying3 w4) (trodAll_cons_mk (shut_int Tryd.underlying31 w5) trodAll_mk0)))))), rfl, bel.frame _, fun h => by cases h⟩

theorem laid_met (os : Os) : laidMet Tryd.prog Rows.pagePartsRow.laid ((laidWorld os).forCall (fun _ _ => 0) ⟨#[], #[.slice none 0 0, .int .i64 0, .int .i64 0, .int .i64 0, .int .i64 0, .int .u64 0], []⟩).memory :=
  laidMet_of_run' 8 (by kernel_rfl) (by kernel_rfl)
set_option maxRecDepth 100000 in
theorem lifted (os : Os) (started : os.Started) (H : Type) (enc : TypeId × Value → H) (F : Stop.Interp) :
    ReturnsInHanded {} Tryd.checked os 4 .any ((OpenSpec.ofChange Rows.pagePartsSpec).preRow enc Tryd.prog Tryd.f4 Rows.pagePartsRow.domain false Rows.pagePartsRow.laid) (((OpenSpec.ofChange Rows.pagePartsSpec).at F).post enc Tryd.prog Tryd.f4 false true false false) := by
  refine returnsInHanded_of_row (C := Tryd.checked) (s := OpenSpec.ofChange Rows.pagePartsSpec) own started (by kernel_rfl) Tryd.func4
    (witness_row_at (enc := enc) (C := Tryd.checked) false (laidWorld os) #[.slice none 0 0, .int .i64 0, .int .i64 0, .int .i64 0, .int .i64 0, .int .u64 0] rfl (by kernel_rfl) (by kernel_rfl) (by kernel_rfl)
      (OpenSpec.preRow_of_cond (x := ([.nil, .lit (.int .i64 0), .lit (.int .i64 0), .lit (.int .i64 0), .lit (.int .i64 0), .lit (.int .u64 0)], [], [])) 8 (by kernel_rfl) (by kernel_rfl) (fun k hk => by cases hk) (by kernel_rfl) (laid_met os))) ?_
  intro W base args ds gs before hval hW _ _ hsz hL _ _
  exact contract H enc W base args ds gs before hval hW hL hsz

theorem said : Rows.PagePartsSaid :=
  OpenClaim.holds_of_cond 4 Tryd.f4 rfl rfl rfl rfl rfl rfl rfl ⟨rfl, rfl, rfl, rfl, rfl⟩ rfl rfl rfl rfl rfl (by kernel_rfl) Tryd.func4 (by kernel_rfl)
    (of_decide_eq_true (by kernel_rfl)) (by unfold Func.isWrapper; first | (rw [if_pos (by decide +kernel)]; kernel_rfl) | (rw [if_neg (by decide +kernel)]; exact ⟨rfl, rfl⟩))
    (fun os started H enc _ F => by rw [OpenClaim.pre_eq_preRow]; exact lifted os started H enc F)

/-- No parameter wants a stand-in; the program's own looks are off. -/
theorem plain (f : FuncId) (fn : Func) (hf : Tryd.pinned.checked.prog.funcNamed "muniment/munimentlaw5.PageParts" = some f) (hfn : Tryd.pinned.checked.prog.funcs[f]? = some fn) :
    false = Tryd.pinned.checked.prog.looks [] ∧ ∀ (j : Nat) t, fn.params[j]? = some t → Tryd.pinned.checked.prog.wantsStandIn t = false := by
  obtain rfl : f = 4 := Option.some.inj ((show Tryd.prog.funcNamed "muniment/munimentlaw5.PageParts" = some 4 by kernel_rfl).symm.trans hf) |>.symm
  obtain rfl : fn = Tryd.f4 := (Option.some.inj (Tryd.func4.symm.trans hfn)).symm
  refine ⟨by kernel_rfl, fun j t ht => ?_⟩
  rw [Tryd.params4] at ht
  have hmem := Array.mem_of_getElem? ht
  have hall : ∀ t ∈ (#[22, 3, 3, 3, 3, 31] : Array TypeId), Tryd.prog.wantsStandIn t = false := by
    have h : (#[22, 3, 3, 3, 3, 31] : Array TypeId).all (fun t => Tryd.prog.wantsStandIn t == false) = true := by kernel_rfl
    intro t ht
    simpa using (Array.all_eq_true_iff_forall_mem.1 h) t ht
  exact hall t hmem

/-- The card. -/
theorem card : Rows.PagePartsCardSaid :=
  Claim7.holds_tied_plain_at .later [] _ _ _ _ said (fun _ h => by cases h) (by kernel_rfl) (fun _ h => by cases h) pageParts_row_tie rfl ⟨rfl, rfl⟩ (by kernel_rfl) rfl plain (by kernel_rfl)
end Go.Proofs.YtmojfhleelhghaaDoor.pageParts

/-
  PageChanges of layer 5 holds: any cell laid into any page, taken out, replaced, byte by byte (P5.2, P5.3), for every argument within the form's own reach.
-/
import Derived.Test.YtmojfhleelhghaaPagRowsP
import Derived.Test.YtmojfhleelhghaaPagChanges
namespace Go.Proofs.Ytmojfhleelhghaa.pageChanges
open Go.ChangeShapes Go.WideShapes Go.ChangeAt Go.RowKit

theorem reach_at {len cap : Nat} {H : Type} {ds : List (DataW H)} {ts : List TypeId} {zs : List Int} (i : Nat) (hsz : (DataW.weightsEach Try.prog ts ds).all (· ≤ reachBytes) = true) (ht : ts[i]? = some 22)
    (hd : ds[i]? = some (.slice (lits .u8 (zs.take len)) (lits .u8 (zs.drop len)))) (hz : zs.length = cap) : cap ≤ 140737488351232 := by
  have := sized_slice hsz ht hd Try.underlying22
  rw [bytes5] at this
  simp only [lits, List.length_map, List.length_take, List.length_drop, reachBytes] at this
  omega
theorem walk (a ca : Option Addr) (len cap clen ccap : Nat) (l cs : List Nat) (i : Int) (w : World) (hin : InAt w a len cap l) (hic : InAt w ca clen ccap cs) (h2 : ccap ≤ 140737488351232) :
    Calls Try.prog 3 #[.slice a len cap, .int .i64 i, .slice ca clen ccap] w (True' w) := by
  obtain ⟨rfl, hlc, hcm, ha, hb⟩ := hin
  obtain ⟨rfl, hlc2, hcm2, ha2, hc⟩ := hic
  by_cases hg : Good l
  · have hl : l.length = 512 := hg.1
    obtain ⟨b, off, rfl, _⟩ := hb.2.2 0 (by omega)
    rw [hl] at hlc ⊢
    unfold maxLen at hcm
    have hz := hb.1
    have HC : Hid (∀ V, Below w.heap.size w V → Calls Try.prog 12 #[.slice (some ⟨b, off, none⟩) 512 cap] V fun e w' => e = .returned (.int .i64 (rd l 14 2 : Int)) ∧ V = w') := Lib.hid (fun V hV => ref_count (bytes_below hb hV) hl)
    have HG : Hid (∀ V, Below w.heap.size w V → Calls Try.prog 10 #[.slice (some ⟨b, off, none⟩) 512 cap] V fun e w' => e = .returned (.bool true) ∧ Below V.heap.size V w') := Lib.hid (fun V hV => by
      have h := (ref_good (cap := cap) (bytes_below hb hV)).mono (fun e w' h => good_true h hg)
      rw [hl] at h
      exact h)
    have RO : ∀ i : Int, (i < 0 ∨ (rd l 14 2 : Int) ≤ i) → ∀ V, Below w.heap.size w V → Calls Try.prog 7 #[.slice (some ⟨b, off, none⟩) 512 cap, .int .i64 i] V (Tells V [] 0 1) := fun i hi V hV => (remove_arg (cap := cap) i (bytes_below hb hV) hg hi).mono (fun e w' h => tells_no 1 h)
    have PO : ∀ i : Int, (i < 0 ∨ (rd l 14 2 : Int) ≤ i) → ∀ V, Below w.heap.size w V → Calls Try.prog 8 #[.slice (some ⟨b, off, none⟩) 512 cap, .int .i64 i, .slice ca cs.length ccap] V (Tells V [] 0 1) := fun i hi V hV => (replace_arg (cap := cap) i _ (bytes_below hb hV) hg hi).mono (fun e w' h => tells_no 1 h)
    have IO : ∀ i : Int, (i < 0 ∨ (rd l 14 2 : Int) < i) → ∀ V, Below w.heap.size w V → Calls Try.prog 6 #[.slice (some ⟨b, off, none⟩) 512 cap, .int .i64 i, .slice ca cs.length ccap] V (Tells V [] 0 1) := fun i hi V hV => (insert_arg (cap := cap) i _ (bytes_below hb hV) hg hi).mono (fun e w' h => tells_no 1 h)
    by_cases hneg : i < 0
    · exact changes_neg (Lib.hid (IO i (.inl hneg))) (Lib.hid (RO i (.inl hneg))) (Lib.hid (PO i (.inl hneg))) HG HC hneg
    obtain ⟨j, rfl⟩ : ∃ j : Nat, i = (j : Int) := ⟨i.toNat, by omega⟩
    by_cases hbig : rd l 14 2 < j
    · exact changes_out (Lib.hid (IO j (.inr (by omega)))) (Lib.hid (RO j (.inr (by omega)))) (Lib.hid (PO j (.inr (by omega)))) HG HC hbig
    have hjn : j ≤ rd l 14 2 := by omega
    have IR : 30 + 4 * rd l 14 2 + sizes l (rd l 14 2) + cs.length ≤ 512 → ∀ V, Below w.heap.size w V → Calls Try.prog 6 #[.slice (some ⟨b, off, none⟩) 512 cap, .int .i64 (j : Int), .slice ca cs.length ccap] V (Tells V (insOf l j cs) 512 0) := fun h V hV =>
      (insert_any (cap := cap) (ccap := ccap) j (bytes_below hb hV) hlc (by omega) hg (bytes_below hc hV) hjn h).mono (fun e w' h' => tells_page (insOf_length hg hjn h) (insOf_bytes hz hg hc.1 j) h')
    have IF : ¬ 30 + 4 * rd l 14 2 + sizes l (rd l 14 2) + cs.length ≤ 512 → ∀ V, Below w.heap.size w V → Calls Try.prog 6 #[.slice (some ⟨b, off, none⟩) 512 cap, .int .i64 (j : Int), .slice ca cs.length ccap] V (Tells V [] 0 7) := fun h V hV =>
      (insert_full (cap := cap) (ccap := ccap) j (bytes_below hb hV) hg hc.2.1 hjn (by omega)).mono (fun e w' h' => tells_no 7 h')
    have AR : 30 + 4 * rd l 14 2 + sizes l (rd l 14 2) + cs.length ≤ 512 → ∀ V, Below w.heap.size w V → Calls Try.prog 13 #[.slice (some ⟨b, off, none⟩) 512 cap, .int .i64 (j : Int), .slice ca cs.length ccap] V (Fits V (insOf l j cs) 512 true) := fun h V hV =>
      (ref_insert (cap := cap) (ccap := ccap) j (bytes_below hb hV) hlc (by omega) hg (bytes_below hc hV) hjn h).mono (fun e w' h' => fits_page (insOf_length hg hjn h) (insOf_bytes hz hg hc.1 j) h')
    have AF : ¬ 30 + 4 * rd l 14 2 + sizes l (rd l 14 2) + cs.length ≤ 512 → ∀ V, Below w.heap.size w V → Calls Try.prog 13 #[.slice (some ⟨b, off, none⟩) 512 cap, .int .i64 (j : Int), .slice ca cs.length ccap] V (Fits V [] 0 false) := fun h V hV =>
      (ref_insert_full (cap := cap) (ccap := ccap) (j : Int) (bytes_below hb hV) hg (by omega) (by omega)).mono (fun e w' h' => fits_no ⟨h'.1, by rw [h'.2]; exact Below.refl _ _⟩)
    by_cases hend : j = rd l 14 2
    · by_cases hr : 30 + 4 * rd l 14 2 + sizes l (rd l 14 2) + cs.length ≤ 512
      · exact changes_end_room (Lib.hid (IR hr)) (Lib.hid (RO j (.inr (by omega)))) (Lib.hid (PO j (.inr (by omega)))) HG HC (Lib.hid (AR hr)) hend
      · exact changes_end_full (Lib.hid (IF hr)) (Lib.hid (RO j (.inr (by omega)))) (Lib.hid (PO j (.inr (by omega)))) HG HC (Lib.hid (AF hr)) hend
    have hin : j < rd l 14 2 := by omega
    have hRl := removed_length hg hin
    have hRb := removed_bytes hz hg hin
    have RR : ∀ V, Below w.heap.size w V → Calls Try.prog 7 #[.slice (some ⟨b, off, none⟩) 512 cap, .int .i64 (j : Int)] V (Tells V (removed l j) 512 0) := fun V hV =>
      (remove_good (cap := cap) j (bytes_below hb hV) hg hin).mono (fun e w' h' => tells_page hRl hRb h')
    have DR : ∀ V, Below w.heap.size w V → Calls Try.prog 15 #[.slice (some ⟨b, off, none⟩) 512 cap, .int .i64 (j : Int)] V (CompOut V (removed l j)) := fun V hV => ref_remove (cap := cap) j (bytes_below hb hV) hg hin
    have PR : (cs.length ≤ rd l (28 + 4 * j) 2 ∨ 26 + 4 * rd l 14 2 + sizes l (rd l 14 2) + cs.length ≤ 512 + rd l (28 + 4 * j) 2) → ∀ V, Below w.heap.size w V → Calls Try.prog 8 #[.slice (some ⟨b, off, none⟩) 512 cap, .int .i64 (j : Int), .slice ca cs.length ccap] V (Tells V (repOf l j cs) 512 0) := fun h V hV => by
      have hx := fun e w' h' => tells_page (w := V) (e := e) (w' := w') (repOf_length hz hg hin h) (repOf_bytes hz hg hc.1 hin) h'
      by_cases hle : cs.length ≤ rd l (28 + 4 * j) 2
      · exact (replace_in (cap := cap) (ccap := ccap) j (bytes_below hb hV) hg (bytes_below hc hV) hin hle).mono hx
      · exact (replace_grow (cap := cap) (ccap := ccap) j (bytes_below hb hV) hg (bytes_below hc hV) hin (by omega) (by omega)).mono hx
    have ER : (cs.length ≤ rd l (28 + 4 * j) 2 ∨ 26 + 4 * rd l 14 2 + sizes l (rd l 14 2) + cs.length ≤ 512 + rd l (28 + 4 * j) 2) → ∀ V, Below w.heap.size w V → Calls Try.prog 14 #[.slice (some ⟨b, off, none⟩) 512 cap, .int .i64 (j : Int), .slice ca cs.length ccap] V (Fits V (repOf l j cs) 512 true) := fun h V hV => by
      have hx := fun e w' h' => fits_page (w := V) (e := e) (w' := w') (repOf_length hz hg hin h) (repOf_bytes hz hg hc.1 hin) h'
      by_cases hle : cs.length ≤ rd l (28 + 4 * j) 2
      · exact (ref_replace_in (cap := cap) (ccap := ccap) j (bytes_below hb hV) hg (bytes_below hc hV) hin hle).mono hx
      · exact (ref_replace_grow (cap := cap) (ccap := ccap) j (bytes_below hb hV) hg (bytes_below hc hV) hin (by omega) (by omega)).mono hx
    have PF : ¬ (cs.length ≤ rd l (28 + 4 * j) 2 ∨ 26 + 4 * rd l 14 2 + sizes l (rd l 14 2) + cs.length ≤ 512 + rd l (28 + 4 * j) 2) → ∀ V, Below w.heap.size w V → Calls Try.prog 8 #[.slice (some ⟨b, off, none⟩) 512 cap, .int .i64 (j : Int), .slice ca cs.length ccap] V (Tells V [] 0 7) := fun h V hV =>
      (replace_full (cap := cap) (ccap := ccap) j (bytes_below hb hV) hg (bytes_below hc hV) hin (by omega) (by omega)).mono (fun e w' h' => tells_no 7 h')
    have EF : ¬ (cs.length ≤ rd l (28 + 4 * j) 2 ∨ 26 + 4 * rd l 14 2 + sizes l (rd l 14 2) + cs.length ≤ 512 + rd l (28 + 4 * j) 2) → ∀ V, Below w.heap.size w V → Calls Try.prog 14 #[.slice (some ⟨b, off, none⟩) 512 cap, .int .i64 (j : Int), .slice ca cs.length ccap] V (Fits V [] 0 false) := fun h V hV =>
      (ref_replace_full (cap := cap) (ccap := ccap) j (bytes_below hb hV) hg (bytes_below hc hV) hin (by omega) (by omega)).mono (fun e w' h' => fits_no h')
    by_cases hr : 30 + 4 * rd l 14 2 + sizes l (rd l 14 2) + cs.length ≤ 512
    · by_cases hp : cs.length ≤ rd l (28 + 4 * j) 2 ∨ 26 + 4 * rd l 14 2 + sizes l (rd l 14 2) + cs.length ≤ 512 + rd l (28 + 4 * j) 2
      · exact changes_in_room_room (Lib.hid (IR hr)) (Lib.hid RR) (Lib.hid (PR hp)) HG HC (Lib.hid (AR hr)) (Lib.hid (ER hp)) (Lib.hid DR) hin hRl hRb
      · exact changes_in_room_full (Lib.hid (IR hr)) (Lib.hid RR) (Lib.hid (PF hp)) HG HC (Lib.hid (AR hr)) (Lib.hid (EF hp)) (Lib.hid DR) hin hRl hRb
    · by_cases hp : cs.length ≤ rd l (28 + 4 * j) 2 ∨ 26 + 4 * rd l 14 2 + sizes l (rd l 14 2) + cs.length ≤ 512 + rd l (28 + 4 * j) 2
      · exact changes_in_full_room (Lib.hid (IF hr)) (Lib.hid RR) (Lib.hid (PR hp)) HG HC (Lib.hid (AF hr)) (Lib.hid (ER hp)) (Lib.hid DR) hin hRl hRb
      · exact changes_in_full_full (Lib.hid (IF hr)) (Lib.hid RR) (Lib.hid (PF hp)) HG HC (Lib.hid (AF hr)) (Lib.hid (EF hp)) (Lib.hid DR) hin hRl hRb
  · exact changes_bad (Lib.hid (fun V hV => (Insert_bad (cap := cap) i _ (bytes_below hb hV) hg).mono (fun e w' h => tells_no 4 h))) (Lib.hid (fun V hV => (Remove_bad (cap := cap) i (bytes_below hb hV) hg).mono (fun e w' h => tells_no 4 h)))
      (Lib.hid (fun V hV => (Replace_bad (cap := cap) i _ (bytes_below hb hV) hg).mono (fun e w' h => tells_no 4 h))) (Lib.hid (fun V hV => (ref_good (cap := cap) (bytes_below hb hV)).mono (fun e w' h => good_false h hg)))

/-- What the walk gives, for every argument and every world that holds the table. -/
theorem contract (H : Type) (enc : TypeId × Value → H) (W : World) (base : Nat) (args : Array Value) (ds gs : List (DataW H)) (before : List MemPlace)
    (hval0 : ∀ (j : Nat) t v, Try.f3.params[j]? = some t → args[j]? = some v → Value.okWide Try.prog W .any base t v)
    (hW : DataW.Whole enc Try.prog Try.f3.params.toList Rows.pageChangesSpec.vars false W args.toList ds gs before)
    (hsz0 : (DataW.weightsEach Try.prog (Try.f3.params.toList ++ (OpenSpec.ofChange Rows.pageChangesSpec).bare.plain.varTypes Try.prog) (ds ++ gs)).all (· ≤ reachBytes) = true) :
    Calls Try.prog 3 args W fun e W' => ∃ v, e = .returned v ∧ Rows.pageChangesSpec.post enc Try.prog Try.f3 false true false false W args v W' := by
  have hval : ∀ (j : Nat) t v, Try.f3.params[j]? = some t → args[j]? = some v → Value.okWide Try.prog W .any base t v := hval0
  have hW' := hW
  obtain ⟨p, q, hA0, hV, rfl, hfz, hnd⟩ := hW
  have hA : DataW.TrodAll enc Try.prog W 0 (fun _ => true) true Try.f3.params.toList args.toList ds p := hA0
  rw [Try.params3] at hA hval hsz0
  obtain ⟨v0, vs0, d0, ds0, p0, q0, hargs, rfl, rfl, h0, r0⟩ := trodAll_cons hA
  obtain ⟨v1, vs1, d1, ds1, p1, q1, rfl, rfl, rfl, h1, r1⟩ := trodAll_cons r0
  obtain ⟨v2, vs2, d2, ds2, p2, q2, rfl, rfl, rfl, h2, r2⟩ := trodAll_cons r1
  obtain ⟨rfl, rfl, rfl⟩ := trodAll_nil r2
  obtain rfl : args = #[v0, v1, v2] := by cases args; simp_all
  obtain ⟨rfl, rfl⟩ := trodVars_none hV
  obtain ⟨a0, len0, cap0, rfl⟩ := okWide_slice Try.underlying22 (hval 0 22 v0 rfl rfl)
  have k0 := h0
  have lt0 : ∀ x ∈ p0, x.block < W.heap.size := by obtain ⟨m, hm⟩ := k0; exact DataW.trod_lt m _ _ _ hm
  obtain ⟨l0, w0, reach0⟩ : ∃ l, InAt W a0 len0 cap0 l ∧ cap0 ≤ 140737488351232 := by
    obtain ⟨fuel, hf⟩ := h0
    rcases open_ints Try.underlying22 Try.underlying5 (by kernel_rfl) hf with ⟨hcs, _⟩ | ⟨x, l, c, zs, hcs, _, hl, hm, hz, hx, hcell, hwz⟩
    · simp [Value.cells] at hcs
      obtain ⟨rfl, rfl, rfl⟩ := hcs
      exact ⟨[], ⟨rfl, Nat.le_refl _, Nat.zero_le _, fun _ => ⟨rfl, rfl⟩, fun c hc => (by cases hc), Nat.zero_le _, fun j hj => absurd hj (Nat.not_lt_zero _)⟩, Nat.zero_le _⟩
    · simp [Value.cells] at hcs
      obtain ⟨rfl, rfl, rfl⟩ := hcs
      have hz' : zs.length = cap0 := by simpa using hz
      have hd : d0 = .slice (lits .u8 (zs.take len0)) (lits .u8 (zs.drop len0)) := congrArg Prod.fst hx
      exact ⟨_, in_of_row hl hm hz' hcell hwz, reach_at 0 (zs := zs) (len := len0) hsz0 rfl (by rw [hd]; rfl) hz'⟩
  obtain ⟨a1, rfl, rfl, rfl, w1⟩ := open_int Try.underlying3 (hval 1 3 v1 rfl rfl) h1
  obtain ⟨a2, len2, cap2, rfl⟩ := okWide_slice Try.underlying22 (hval 2 22 v2 rfl rfl)
  have k2 := h2
  have lt2 : ∀ x ∈ p2, x.block < W.heap.size := by obtain ⟨m, hm⟩ := k2; exact DataW.trod_lt m _ _ _ hm
  obtain ⟨l2, w2, reach2⟩ : ∃ l, InAt W a2 len2 cap2 l ∧ cap2 ≤ 140737488351232 := by
    obtain ⟨fuel, hf⟩ := h2
    rcases open_ints Try.underlying22 Try.underlying5 (by kernel_rfl) hf with ⟨hcs, _⟩ | ⟨x, l, c, zs, hcs, _, hl, hm, hz, hx, hcell, hwz⟩
    · simp [Value.cells] at hcs
      obtain ⟨rfl, rfl, rfl⟩ := hcs
      exact ⟨[], ⟨rfl, Nat.le_refl _, Nat.zero_le _, fun _ => ⟨rfl, rfl⟩, fun c hc => (by cases hc), Nat.zero_le _, fun j hj => absurd hj (Nat.not_lt_zero _)⟩, Nat.zero_le _⟩
    · simp [Value.cells] at hcs
      obtain ⟨rfl, rfl, rfl⟩ := hcs
      have hz' : zs.length = cap2 := by simpa using hz
      have hd : d2 = .slice (lits .u8 (zs.take len2)) (lits .u8 (zs.drop len2)) := congrArg Prod.fst hx
      exact ⟨_, in_of_row hl hm hz' hcell hwz, reach_at 2 (zs := zs) (len := len2) hsz0 rfl (by rw [hd]; rfl) hz'⟩
  clear hA0 hval0
  refine (walk a0 a2 len0 cap0 len2 cap2 l0 l2 a1 W w0 w2 reach2).mono fun e W' ⟨he, bel⟩ => ?_
  subst he
  exact ⟨_, rfl, _, _, _, [], _, [], hW', trodAll_mk1 (shut_bool Try.underlying4 _), (trodAll_cons_mk (Below.trod laidOut (by kernel_rfl) (of_decide_eq_true (by kernel_rfl)) k0 bel lt0) (trodAll_cons_mk (shut_int Try.underlying3 w1) (trodAll_cons_mk (Below.trod laidOut (by kernel_rfl) (of_decide_eq_true (by kernel_rfl)) k2 bel lt2) trodAll_mk0))), rfl, bel.frame _, fun h => by cases h⟩

theorem laid_met (os : Os) : laidMet Try.prog Rows.pageChangesRow.laid ((plainWorld os).forCall (fun _ _ => 0) ⟨#[], #[.slice none 0 0, .int .i64 0, .slice none 0 0], []⟩).memory :=
  laidMet_of_run' 8 (by kernel_rfl) (by kernel_rfl)
set_option maxRecDepth 100000 in
theorem lifted (os : Os) (started : os.Started) (H : Type) (enc : TypeId × Value → H) (F : Stop.Interp) :
    ReturnsInHanded {} Try.checked os 3 .any ((OpenSpec.ofChange Rows.pageChangesSpec).preRow enc Try.prog Try.f3 Rows.pageChangesRow.domain false Rows.pageChangesRow.laid) (((OpenSpec.ofChange Rows.pageChangesSpec).at F).post enc Try.prog Try.f3 false true false false) := by
  refine returnsInHanded_of_row (C := Try.checked) (s := OpenSpec.ofChange Rows.pageChangesSpec) own started (by kernel_rfl) Try.func3
    (witness_row_at (enc := enc) (C := Try.checked) false (plainWorld os) #[.slice none 0 0, .int .i64 0, .slice none 0 0] rfl (by kernel_rfl) (by kernel_rfl) (by kernel_rfl)
      (OpenSpec.preRow_of_cond (x := ([.nil, .lit (.int .i64 0), .nil], [], [])) 8 (by kernel_rfl) (by kernel_rfl) (fun k hk => by cases hk) (by kernel_rfl) (laid_met os))) ?_
  intro W base args ds gs before hval hW _ _ hsz _ _ _
  exact contract H enc W base args ds gs before hval hW hsz

theorem said : Rows.PageChangesSaid :=
  OpenClaim.holds_of_cond 3 Try.f3 rfl rfl rfl rfl rfl rfl rfl ⟨rfl, rfl, rfl, rfl, rfl⟩ rfl rfl rfl rfl rfl (by kernel_rfl) Try.func3 (by kernel_rfl)
    (of_decide_eq_true (by kernel_rfl)) (by unfold Func.isWrapper; first | (rw [if_pos (by decide +kernel)]; kernel_rfl) | (rw [if_neg (by decide +kernel)]; exact ⟨rfl, rfl⟩))
    (fun os started H enc _ F => by rw [OpenClaim.pre_eq_preRow]; exact lifted os started H enc F)

end Go.Proofs.Ytmojfhleelhghaa.pageChanges

/- Rings: the closure, walked. -/
import Derived.Test.YthanjncpgcmnaaaLckVic
namespace Go.Proofs.Ythanjncpgcmnaaa
open Go.ChangeShapes Go.WideShapes Go.ChangeAt Go.RowKit

/-- The blocks that the closure writes. -/
def Ev (mM cr cg : Nat) (b : Nat) : Prop := b = mM ∨ b = cr ∨ b = cg
/-- What the closure lies on. -/
structure Vnv (w : World) (ct cid cr cm cb cg cw mM mB g id N nB : Nat) (S : St) (x : Gh) (B : Nat → Prop) : Prop where
  tab : Tab w g S x N
  t0 : w.cell? ⟨ct, 0, none⟩ = some (.pointer (some ⟨g, 0, none⟩))
  i0 : w.cell? ⟨cid, 0, none⟩ = some (.int .u64 (id : Int))
  m0 : w.cell? ⟨cm, 0, none⟩ = some (.map (some mM))
  b0 : w.cell? ⟨cb, 0, none⟩ = some (.map (some mB))
  w0 : w.cell? ⟨cw, 0, none⟩ = some (.func (.func 44) #[] #[.pointer (some ⟨ct, 0, none⟩), .pointer (some ⟨cid, 0, none⟩), .pointer (some ⟨cr, 0, none⟩), .pointer (some ⟨cm, 0, none⟩), .pointer (some ⟨cb, 0, none⟩), .pointer (some ⟨cg, 0, none⟩), .pointer (some ⟨cw, 0, none⟩)])
  set : SetAt w mB nB B
  ne : ∀ b, Ev mM cr cg b → x.who b = .out ∧ b ≠ ct ∧ b ≠ cid ∧ b ≠ cm ∧ b ≠ cb ∧ b ≠ cw ∧ b ≠ mB
  d1 : cr ≠ cg
  d2 : cr ≠ mM
  d3 : cg ≠ mM
section
variable {w w' : World} {ct cid cr cm cb cg cw mM mB g id N nB : Nat} {S : St} {x : Gh} {B : Nat → Prop}
theorem vnv_turned (h : Vnv w ct cid cr cm cb cg cw mM mB g id N nB S x B) (ht : Turned (Ev mM cr cg) w w') : Vnv w' ct cid cr cm cb cg cw mM mB g id N nB S x B :=
  ⟨h.tab.turned ht (fun b e => (h.ne b e).1), cell_turned h.t0 ht (fun e => (h.ne _ e).2.1 rfl), cell_turned h.i0 ht (fun e => (h.ne _ e).2.2.1 rfl), cell_turned h.m0 ht (fun e => (h.ne _ e).2.2.2.1 rfl), cell_turned h.b0 ht (fun e => (h.ne _ e).2.2.2.2.1 rfl), cell_turned h.w0 ht (fun e => (h.ne _ e).2.2.2.2.2.1 rfl),
    set_kept h.set (ht.block _ (MapAt.lt h.set) (fun e => (h.ne _ e).2.2.2.2.2.2 rfl)), h.ne, h.d1, h.d2, h.d3⟩
/-- What the closure changes. -/
structure Vst (w : World) (cr cg mM n : Nat) (M : Nat → Prop) (G : Nat) (R : Bool) : Prop where
  set : SetAt w mM n M
  r0 : Cells w cr 4 #[.bool R]
  g0 : Cells w cg 27 #[.int .u64 (G : Int)]
theorem vst_below {n G : Nat} {M : Nat → Prop} {R : Bool} (h : Vst w cr cg mM n M G R) (hb : Below w.heap.size w w') : Vst w' cr cg mM n M G R :=
  ⟨set_kept h.set (hb.block _ (MapAt.lt h.set)), cells_kept h.r0 (hb.block _ (cells_lt h.r0)), cells_kept h.g0 (hb.block _ (cells_lt h.g0))⟩
theorem vst_ring {n G : Nat} {M : Nat → Prop} {R : Bool} (h : Vst w cr cg mM n M G R) (d1 : cr ≠ cg) (d2 : cr ≠ mM) : Vst (w.setCell ⟨cr, 0, none⟩ (.bool true)) cr cg mM n M G true ∧ Turned (Ev mM cr cg) w (w.setCell ⟨cr, 0, none⟩ (.bool true)) :=
  ⟨⟨set_kept h.set (Below.heap_setCell _ _ _ _ (fun e => d2 e.symm)), cells_setCell (o := 0) (v := .bool true) h.r0, cells_kept h.g0 (Below.heap_setCell _ _ _ _ (fun e => d1 e.symm))⟩, (Turned.refl _ w).setCell (.inl (.inr (.inl rfl))) _⟩
theorem vst_great {n G : Nat} {M : Nat → Prop} {R : Bool} (h : Vst w cr cg mM n M G R) (d1 : cr ≠ cg) (d3 : cg ≠ mM) (K : Nat) : Vst (w.setCell ⟨cg, 0, none⟩ (.int .u64 (K : Int))) cr cg mM n M K R ∧ Turned (Ev mM cr cg) w (w.setCell ⟨cg, 0, none⟩ (.int .u64 (K : Int))) :=
  ⟨⟨set_kept h.set (Below.heap_setCell _ _ _ _ (fun e => d3 e.symm)), cells_kept h.r0 (Below.heap_setCell _ _ _ _ d1), cells_setCell (o := 0) (v := .int .u64 (K : Int)) h.g0⟩, (Turned.refl _ w).setCell (.inl (.inr (.inr rfl))) _⟩
theorem vst_mark {n G : Nat} {M M' : Nat → Prop} {R : Bool} (h : Vst w cr cg mM n M G R) (d2 : cr ≠ mM) (d3 : cg ≠ mM) {n' : Nat} (hs : SetAt w' mM n' M') (ht : Turned (fun b => b = mM) w w') : Vst w' cr cg mM n' M' G R :=
  ⟨hs, cells_kept h.r0 (ht.block _ (cells_lt h.r0) d2), cells_kept h.g0 (ht.block _ (cells_lt h.g0) d3)⟩
end
/-- What a walk from one leaves. -/
def VicEnd (w : World) (cr cg mM n : Nat) (U : List Nat) (S : St) (id : Nat) (B : Nat → Prop) (a : Nat) (M : Nat → Prop) (G : Nat) (R : Bool) (e : Ending) (w' : World) : Prop :=
  e = .returned (.tuple #[]) ∧ ∃ n' M' G' R' vs, Vst w' cr cg mM n' M' G' R' ∧ Turned (Ev mM cr cg) w w' ∧ (∀ v, v ∈ vs ↔ Edge S a v) ∧ Vic S id B a vs M G R M' G' R' ∧ n' + rest U M' ≤ n + rest U M ∧ G' < top
theorem ev_below {w w' : World} {E : Nat → Prop} (h : Below w.heap.size w w') : Turned E w w' := Turned.of_below h
theorem max_u (G u : Nat) : max (G : Int) (u : Int) = ((max G u : Nat) : Int) := by omega
set_option maxRecDepth 100000 in
set_option maxHeartbeats 8000000 in
theorem vic_any {U : List Nat} {ct cid cr cm cb cg cw mM mB g id N nB : Nat} {S : St} {x : Gh} {B : Nat → Prop} (hU : ∀ a u, Edge S a u → u ∈ U) (hN : N < 8796093022208) (hk : ∀ o, (S.waits o).2 ≠ 0 → ∃ k, x.lk (S.waits o).1 = some k) (hnd : ∀ n, ((S.queue n).map (·.1)).Nodup) :
    ∀ (d : Nat) (w : World) (a n : Nat) (M : Nat → Prop) (G : Nat) (R : Bool), Vnv w ct cid cr cm cb cg cw mM mB g id N nB S x B → Vst w cr cg mM n M G R → rest U M < d → n + rest U M ≤ 8796093022208 → a < top → G < top →
    Calls Try.prog 44 #[.int .u64 (a : Int), .pointer (some ⟨ct, 0, none⟩), .pointer (some ⟨cid, 0, none⟩), .pointer (some ⟨cr, 0, none⟩), .pointer (some ⟨cm, 0, none⟩), .pointer (some ⟨cb, 0, none⟩), .pointer (some ⟨cg, 0, none⟩), .pointer (some ⟨cw, 0, none⟩)] w (VicEnd w cr cg mM n U S id B a M G R) := by
  have HU := Lib.hid hU; have HKK := Lib.hid hk; have HND := Lib.hid hnd
  clear hU hk hnd
  intro d
  induction d with
  | zero => intro w a n M G R _ _ h; exact absurd h (Nat.not_lt_zero _)
  | succ d ih =>
    intro w a n M G R henv hst hd hn ha hG
    have HIH := Lib.hid ih
    clear ih
    have t0 := henv.t0
    have HWF := Lib.hid (waitsfor_any henv.tab (by omega) ha (HKK.out a) HND.out)
    have HEV := Lib.hid henv; have HST := Lib.hid hst; have HD := Lib.hid hd; have HNN := Lib.hid hn; have HGT := Lib.hid hG
    have HEL : Hid (∀ b, Ev mM cr cg b → b < w.heap.size) := Lib.hid (fun b hb => by
      rcases hb with e | e | e
      · rw [e]; exact MapAt.lt hst.set
      · rw [e]; exact cells_lt hst.r0
      · rw [e]; exact cells_lt hst.g0)
    generalize hR : VicEnd w cr cg mM n U S id B a M G R = Q
    have HR := Lib.hid hR
    clear henv hst hR ha hd hG
    go_enter Try.func44, Try.ntmps44
    go_wp2_with (go_at_call 45; refine HWF.out.mono ?_; rintro e w2 ⟨os, vs, bo, rfl, hq, hiff, hol, -⟩; have HQ := Lib.hid hq; have HIFF := Lib.hid hiff; have hqs := hq.slc; obtain ⟨m, hm⟩ : ∃ m, m = os.length := ⟨_, rfl⟩; rw [← hm] at hqs hol; obtain ⟨sa, scap, rfl, -, hsc, -⟩ := slc_form hqs; unfold maxLen at hsc; have HQS := Lib.hid hqs; have HM := Lib.hid hm; clear hq hiff hqs hm)
    clear t0
    go_loopw [19] (fun i wr => ∃ (j n1 : Nat) (M1 : Nat → Prop) (G1 : Nat) (R1 : Bool), j ≤ m ∧ i = .int .i64 (j : Int) ∧ Hid (Vst wr cr cg mM n1 M1 G1 R1) ∧ Hid (Turned (Ev mM cr cg) w wr) ∧ Hid (Slc wr bo 1 (.slice sa m scap) m (u64s os)) ∧ Hid (Vic S id B a (os.take j) M G R M1 G1 R1) ∧ n1 + rest U M1 ≤ n + rest U M ∧ G1 < top) (fun i _ => m - (intOf i).toNat)
    case atStart => exact ⟨0, n, M, G, R, Nat.zero_le _, rfl, Lib.hid (vst_below HST.out HQ.out.below), Lib.hid (ev_below HQ.out.below), HQS, Lib.hid vic_start, Nat.le_refl _, HGT.out⟩
    case round =>
      obtain ⟨j, n1, M1, G1, R1, hj, rfl, hs, ht, hsl, hv, hnr, hG1⟩ := hrel
      by_cases hlt : j < m
      · have hjl : j < os.length := by rw [← HM.out]; exact hlt
        obtain ⟨b, off, rfl, hcell⟩ := slc_at hsl.out (j := j) (u := .int .u64 (os[j] : Int)) (by rw [u64s, List.getElem?_map, List.getElem?_eq_getElem hjl]; rfl) hlt
        have htk : os.take (j + 1) = os.take j ++ [os[j]] := by rw [List.take_add_one, List.getElem?_eq_getElem hjl]; rfl
        have hmem := List.getElem_mem hjl
        generalize os[j] = u at hcell htk hmem
        have hedge := (HIFF.out u).1 hmem
        have hu := edge_top HEV.out.tab hedge
        have hev := vnv_turned HEV.out ht.out
        have i0 := hev.i0
        have HTK := Lib.hid htk; have HED := Lib.hid hedge; have HUT := Lib.hid hu; have HEV1 := Lib.hid hev
        have HBO : Hid (∀ b, bo = some b → ¬ Ev mM cr cg b) := Lib.hid (fun b e h => by have h1 := HQ.out.bo b e; have h2 := HEL.out b h; omega)
        clear htk hmem hedge hev hjl
        by_cases hid : u = id
        · subst hid
          have r5 : wr.cell? ⟨cr, 0, none⟩ = some (.bool R1) := (cell_of_row _ _ 0 _ _ _ hs.out.r0).trans rfl
          have f5 : wr.frozen? ⟨cr, 0, none⟩ = false := frozen_of_row _ _ _ _ _ hs.out.r0
          have deq : ((u : Int) == (u : Int)) = true := by simp
          have h4 : Vst (wr.setCell ⟨cr, 0, none⟩ (.bool true)) cr cg mM n1 M1 G1 true ∧ Turned (Ev mM cr cg) wr (wr.setCell ⟨cr, 0, none⟩ (.bool true)) := vst_ring hs.out HEV1.out.d1 HEV1.out.d2
          have hr4 : true = true ↔ R1 = true ∨ u = u := ⟨fun _ => .inr rfl, fun _ => rfl⟩
          have hev4 := vnv_turned HEV1.out h4.2
          have m4 := hev4.m0
          have HV4 := Lib.hid h4; have HRR := Lib.hid hr4
          by_cases hm : M1 u
          · have hlook := set_in h4.1.set hu hm
            have HMM := Lib.hid hm
            clear hm h4 hr4 hev4 hu
            go_wp2_with fail
            go_roundw
            case rel => exact ⟨j + 1, n1, M1, G1, true, by omega, by go_num, Lib.hid (vst_below HV4.out.1 (below_alloc _ _)), Lib.hid ((ht.out.trans HV4.out.2 (Grows.refl _ _)).alloc _), Lib.hid (slc_turned hsl.out (HV4.out.2.alloc _) HBO.out), by rw [HTK.out]; exact Lib.hid (vic_met hv.out HMM.out HRR.out), hnr, hG1⟩
            case measure => simp [intOf]; omega
          · have hlook := set_out h4.1.set hu hm
            have h5 := vst_below h4.1 (below_alloc (wr.setCell ⟨cr, 0, none⟩ (.bool true)) (.cells #[] 92))
            obtain ⟨w6, hput, s6, t6⟩ := set_put h5.set (by unfold maxLen; omega) hu
            have ht6 : Turned (Ev mM cr cg) wr w6 := (h4.2.alloc (.cells #[] 92)).trans (t6.mono (fun b e => .inl e)) (Grows.refl _ _)
            have v6 := vst_mark h5 HEV1.out.d2 HEV1.out.d3 s6 t6
            have hev6 := vnv_turned HEV1.out ht6
            have m5 : ((wr.setCell ⟨cr, 0, none⟩ (.bool true)).alloc (.cells #[] 92)).cell? ⟨cm, 0, none⟩ = some (.map (some mM)) := (vnv_turned hev4 (ev_below (below_alloc _ _))).m0
            have b6 := hev6.b0
            have hrl := rest_lt (HU.out _ _ HED.out) hm
            have HV6 := Lib.hid v6; have HT6 := Lib.hid ht6; have HE6 := Lib.hid hev6; have HRL := Lib.hid hrl; have HMM := Lib.hid hm
            by_cases hB : B u
            · have hlook2 := set_in hev6.set hu hB
              have h7 := vst_below v6 (below_alloc w6 (.cells #[] 92))
              have v8 := vst_great h7 HEV1.out.d1 HEV1.out.d3 (max G1 u)
              have g7 : (w6.alloc (.cells #[] 92)).cell? ⟨cg, 0, none⟩ = some (.int .u64 (G1 : Int)) := (cell_of_row _ _ 0 _ _ _ h7.g0).trans rfl
              have f7 : (w6.alloc (.cells #[] 92)).frozen? ⟨cg, 0, none⟩ = false := frozen_of_row _ _ _ _ _ h7.g0
              have ht8 : Turned (Ev mM cr cg) wr ((w6.alloc (.cells #[] 92)).setCell ⟨cg, 0, none⟩ (.int .u64 ((max G1 u : Nat) : Int))) := (ht6.alloc _).trans v8.2 (Grows.refl _ _)
              have hev8 := vnv_turned HEV1.out ht8
              have w8 := hev8.w0
              have hmx := max_u G1 u
              have HC := Lib.hid (HIH.out _ u (n1 + 1) _ (max G1 u) true hev8 v8.1 (by have h1 := HD.out; have h2 := rest_le (U := U) hv.out.sub; omega) (by have h1 := HNN.out; omega) hu (by have h1 := HUT.out; omega))
              have HT8 := Lib.hid ht8; have HBB := Lib.hid hB
              clear hm h4 hr4 hev4 hu h5 s6 t6 ht6 v6 hev6 hrl hB h7 v8 ht8 hev8
              go_wp2_with (go_at_call 44; refine HC.out.mono ?_; rintro e w9 ⟨rfl, n9, M9, G9, R9, vs9, s9, t9, e9, v9, r9, q9⟩; have HS9 := Lib.hid s9; have HT9 := Lib.hid (HT8.out.trans t9 (Grows.refl _ _)); have HV9 := Lib.hid (vic_walk hv.out HED.out HBB.out HMM.out HRR.out e9 v9); have HR9 := Lib.hid r9; have HQ9 := Lib.hid q9; clear s9 t9 e9 v9 r9 q9)
              go_roundw
              case rel => exact ⟨j + 1, n9, M9, G9, R9, by omega, by go_num, HS9, Lib.hid (ht.out.trans HT9.out (Grows.refl _ _)), Lib.hid (slc_turned hsl.out HT9.out HBO.out), by rw [HTK.out]; exact HV9, by have h1 := HR9.out; have h2 := HRL.out; omega, HQ9.out⟩
              case measure => simp [intOf]; omega
            · have hlook2 := set_out hev6.set hu hB
              have HBB := Lib.hid hB
              clear hm h4 hr4 hev4 hu h5 s6 t6 ht6 v6 hev6 hrl hB
              go_wp2_with fail
              go_roundw
              case rel => exact ⟨j + 1, n1 + 1, _, G1, true, by omega, by go_num, Lib.hid (vst_below HV6.out (below_alloc _ _)), Lib.hid ((ht.out.trans HT6.out (Grows.refl _ _)).alloc _), Lib.hid (slc_turned hsl.out (HT6.out.alloc _) HBO.out), by rw [HTK.out]; exact Lib.hid (vic_leaf hv.out HED.out HBB.out HRR.out), by have h2 := HRL.out; omega, hG1⟩
              case measure => simp [intOf]; omega
        · have deq : ((u : Int) == (id : Int)) = false := by simp; omega
          have h4 : Vst (wr) cr cg mM n1 M1 G1 R1 ∧ Turned (Ev mM cr cg) wr (wr) := ⟨hs.out, Turned.refl _ _⟩
          have hr4 : R1 = true ↔ R1 = true ∨ u = id := ⟨fun h => .inl h, fun h => h.resolve_right hid⟩
          have hev4 := vnv_turned HEV1.out h4.2
          have m4 := hev4.m0
          have HV4 := Lib.hid h4; have HRR := Lib.hid hr4
          by_cases hm : M1 u
          · have hlook := set_in h4.1.set hu hm
            have HMM := Lib.hid hm
            clear hm h4 hr4 hev4 hu
            go_wp2_with fail
            go_roundw
            case rel => exact ⟨j + 1, n1, M1, G1, R1, by omega, by go_num, Lib.hid (vst_below HV4.out.1 (below_alloc _ _)), Lib.hid ((ht.out.trans HV4.out.2 (Grows.refl _ _)).alloc _), Lib.hid (slc_turned hsl.out (HV4.out.2.alloc _) HBO.out), by rw [HTK.out]; exact Lib.hid (vic_met hv.out HMM.out HRR.out), hnr, hG1⟩
            case measure => simp [intOf]; omega
          · have hlook := set_out h4.1.set hu hm
            have h5 := vst_below h4.1 (below_alloc (wr) (.cells #[] 92))
            obtain ⟨w6, hput, s6, t6⟩ := set_put h5.set (by unfold maxLen; omega) hu
            have ht6 : Turned (Ev mM cr cg) wr w6 := (h4.2.alloc (.cells #[] 92)).trans (t6.mono (fun b e => .inl e)) (Grows.refl _ _)
            have v6 := vst_mark h5 HEV1.out.d2 HEV1.out.d3 s6 t6
            have hev6 := vnv_turned HEV1.out ht6
            have m5 : ((wr).alloc (.cells #[] 92)).cell? ⟨cm, 0, none⟩ = some (.map (some mM)) := (vnv_turned hev4 (ev_below (below_alloc _ _))).m0
            have b6 := hev6.b0
            have hrl := rest_lt (HU.out _ _ HED.out) hm
            have HV6 := Lib.hid v6; have HT6 := Lib.hid ht6; have HE6 := Lib.hid hev6; have HRL := Lib.hid hrl; have HMM := Lib.hid hm
            by_cases hB : B u
            · have hlook2 := set_in hev6.set hu hB
              have h7 := vst_below v6 (below_alloc w6 (.cells #[] 92))
              have v8 := vst_great h7 HEV1.out.d1 HEV1.out.d3 (max G1 u)
              have g7 : (w6.alloc (.cells #[] 92)).cell? ⟨cg, 0, none⟩ = some (.int .u64 (G1 : Int)) := (cell_of_row _ _ 0 _ _ _ h7.g0).trans rfl
              have f7 : (w6.alloc (.cells #[] 92)).frozen? ⟨cg, 0, none⟩ = false := frozen_of_row _ _ _ _ _ h7.g0
              have ht8 : Turned (Ev mM cr cg) wr ((w6.alloc (.cells #[] 92)).setCell ⟨cg, 0, none⟩ (.int .u64 ((max G1 u : Nat) : Int))) := (ht6.alloc _).trans v8.2 (Grows.refl _ _)
              have hev8 := vnv_turned HEV1.out ht8
              have w8 := hev8.w0
              have hmx := max_u G1 u
              have HC := Lib.hid (HIH.out _ u (n1 + 1) _ (max G1 u) R1 hev8 v8.1 (by have h1 := HD.out; have h2 := rest_le (U := U) hv.out.sub; omega) (by have h1 := HNN.out; omega) hu (by have h1 := HUT.out; omega))
              have HT8 := Lib.hid ht8; have HBB := Lib.hid hB
              clear hm h4 hr4 hev4 hu h5 s6 t6 ht6 v6 hev6 hrl hB h7 v8 ht8 hev8
              go_wp2_with (go_at_call 44; refine HC.out.mono ?_; rintro e w9 ⟨rfl, n9, M9, G9, R9, vs9, s9, t9, e9, v9, r9, q9⟩; have HS9 := Lib.hid s9; have HT9 := Lib.hid (HT8.out.trans t9 (Grows.refl _ _)); have HV9 := Lib.hid (vic_walk hv.out HED.out HBB.out HMM.out HRR.out e9 v9); have HR9 := Lib.hid r9; have HQ9 := Lib.hid q9; clear s9 t9 e9 v9 r9 q9)
              go_roundw
              case rel => exact ⟨j + 1, n9, M9, G9, R9, by omega, by go_num, HS9, Lib.hid (ht.out.trans HT9.out (Grows.refl _ _)), Lib.hid (slc_turned hsl.out HT9.out HBO.out), by rw [HTK.out]; exact HV9, by have h1 := HR9.out; have h2 := HRL.out; omega, HQ9.out⟩
              case measure => simp [intOf]; omega
            · have hlook2 := set_out hev6.set hu hB
              have HBB := Lib.hid hB
              clear hm h4 hr4 hev4 hu h5 s6 t6 ht6 v6 hev6 hrl hB
              go_wp2_with fail
              go_roundw
              case rel => exact ⟨j + 1, n1 + 1, _, G1, R1, by omega, by go_num, Lib.hid (vst_below HV6.out (below_alloc _ _)), Lib.hid ((ht.out.trans HT6.out (Grows.refl _ _)).alloc _), Lib.hid (slc_turned hsl.out (HT6.out.alloc _) HBO.out), by rw [HTK.out]; exact Lib.hid (vic_leaf hv.out HED.out HBB.out HRR.out), by have h2 := HRL.out; omega, hG1⟩
              case measure => simp [intOf]; omega
      · have hjm : m = j := by omega
        subst hjm
        have HX : Hid (VicEnd w cr cg mM n U S id B a M G R (.returned (.tuple #[])) wr) := Lib.hid ⟨rfl, n1, M1, G1, R1, os, hs.out, ht.out, HIFF.out, by have := hv.out; rw [List.take_of_length_le (by rw [HM.out]; exact Nat.le_refl _)] at this; exact this, hnr, hG1⟩
        go_wp2_with fail
        go_end0
        rw [← HR.out]
        exact HX.out
end Go.Proofs.Ythanjncpgcmnaaa

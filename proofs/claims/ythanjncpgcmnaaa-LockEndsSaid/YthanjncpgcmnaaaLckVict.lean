/- Rings: the greatest owner on one. -/
import Derived.Test.YthanjncpgcmnaaaLckVicW
namespace Go.Proofs.Ythanjncpgcmnaaa
open Go.ChangeShapes Go.WideShapes Go.ChangeAt Go.RowKit

/-- What Victim tells. -/
def VictimTells (W : World) (S : St) (id : Nat) (e : Ending) (w' : World) : Prop :=
  Below W.heap.size W w' ∧ ((¬ TE S id id ∧ e = .returned (.tuple #[.int .u64 0, .bool false])) ∨ (TE S id id ∧ ∃ G : Nat, e = .returned (.tuple #[.int .u64 (G : Int), .bool true]) ∧ (G = id ∨ (TE S id G ∧ TE S G id)) ∧ ∀ z, TE S id z → TE S z id → z ≤ G))
/-- The closure's ground. -/
theorem vic_ground {w3 : World} {g id N mB nB ct cid : Nat} {S : St} {x : Gh} {B : Nat → Prop} (H : Tab w3 g S x N) (h1 : w3.cell? ⟨ct, 0, none⟩ = some (.pointer (some ⟨g, 0, none⟩))) (h2 : w3.cell? ⟨cid, 0, none⟩ = some (.int .u64 (id : Int))) (hset : SetAt w3 mB nB B) :
    let n := w3.heap.size
    let fv : Value := .func (.func 44) #[] #[.pointer (some ⟨ct, 0, none⟩), .pointer (some ⟨cid, 0, none⟩), .pointer (some ⟨n + 1 + 1 + 1 + 1, 0, none⟩), .pointer (some ⟨n + 1 + 1, 0, none⟩), .pointer (some ⟨n, 0, none⟩), .pointer (some ⟨n + 1 + 1 + 1, 0, none⟩), .pointer (some ⟨n + 1 + 1 + 1 + 1 + 1, 0, none⟩)]
    let W9 := (((((w3.alloc (.cells #[.map (some mB)] 89)).alloc (.map #[] 0)).alloc (.cells #[.map (some (n + 1))] 89)).alloc (.cells #[.int .u64 (id : Int)] 27)).alloc (.cells #[.bool false] 4)).alloc (.cells #[fv] 91)
    Vnv W9 ct cid (n + 1 + 1 + 1 + 1) (n + 1 + 1) n (n + 1 + 1 + 1) (n + 1 + 1 + 1 + 1 + 1) (n + 1) mB g id N nB S x B ∧ Vst W9 (n + 1 + 1 + 1 + 1) (n + 1 + 1 + 1) (n + 1) 0 (fun _ => False) id false ∧ Below n w3 W9 := by
  intro n fv W9
  have hb : Below w3.heap.size w3 W9 := Turned.none_below ((((((((Turned.refl (fun _ => False) w3).alloc _).alloc _).alloc _).alloc _).alloc _).alloc _))
  have l1 := World.block_lt_of_cell? w3 _ h1
  have l2 := World.block_lt_of_cell? w3 _ h2
  have l1 : ct < n := l1
  have l2 : cid < n := l2
  have l3 : mB < n := MapAt.lt hset
  have k0 : Cells W9 n 89 #[.map (some mB)] := cells_alloc (cells_alloc (cells_alloc (cells_alloc (cells_alloc (cells_new w3 _ _) _) _) _) _) _
  have z1 : (w3.alloc (.cells #[.map (some mB)] 89)).heap.size = n + 1 := size_alloc _ _
  have z2 : ((w3.alloc (.cells #[.map (some mB)] 89)).alloc (.map #[] 0)).heap.size = n + 1 + 1 := by rw [size_alloc, z1]
  have z3 : (((w3.alloc (.cells #[.map (some mB)] 89)).alloc (.map #[] 0)).alloc (.cells #[.map (some (n + 1))] 89)).heap.size = n + 1 + 1 + 1 := by rw [size_alloc, z2]
  have z4 : ((((w3.alloc (.cells #[.map (some mB)] 89)).alloc (.map #[] 0)).alloc (.cells #[.map (some (n + 1))] 89)).alloc (.cells #[.int .u64 (id : Int)] 27)).heap.size = n + 1 + 1 + 1 + 1 := by rw [size_alloc, z3]
  have z5 : (((((w3.alloc (.cells #[.map (some mB)] 89)).alloc (.map #[] 0)).alloc (.cells #[.map (some (n + 1))] 89)).alloc (.cells #[.int .u64 (id : Int)] 27)).alloc (.cells #[.bool false] 4)).heap.size = n + 1 + 1 + 1 + 1 + 1 := by rw [size_alloc, z4]
  have hsm : SetAt W9 (n + 1) 0 (fun _ => False) := by
    have h := set_made (w3.alloc (.cells #[.map (some mB)] 89))
    rw [z1] at h
    have hT := Turned.none_below (((((Turned.refl (fun _ => False) ((w3.alloc (.cells #[.map (some mB)] 89)).alloc (.map #[] 0))).alloc (.cells #[.map (some (n + 1))] 89)).alloc (.cells #[.int .u64 (id : Int)] 27)).alloc (.cells #[.bool false] 4)).alloc (.cells #[fv] 91))
    exact set_kept h (hT.block _ (MapAt.lt h))
  have k2 : Cells W9 (n + 1 + 1) 89 #[.map (some (n + 1))] := by
    have h := cells_new ((w3.alloc (.cells #[.map (some mB)] 89)).alloc (.map #[] 0)) 89 #[.map (some (n + 1))]
    rw [z2] at h
    exact cells_alloc (cells_alloc (cells_alloc h _) _) _
  have k3 : Cells W9 (n + 1 + 1 + 1) 27 #[.int .u64 (id : Int)] := by
    have h := cells_new (((w3.alloc (.cells #[.map (some mB)] 89)).alloc (.map #[] 0)).alloc (.cells #[.map (some (n + 1))] 89)) 27 #[.int .u64 (id : Int)]
    rw [z3] at h
    exact cells_alloc (cells_alloc h _) _
  have k4 : Cells W9 (n + 1 + 1 + 1 + 1) 4 #[.bool false] := by
    have h := cells_new ((((w3.alloc (.cells #[.map (some mB)] 89)).alloc (.map #[] 0)).alloc (.cells #[.map (some (n + 1))] 89)).alloc (.cells #[.int .u64 (id : Int)] 27)) 4 #[.bool false]
    rw [z4] at h
    exact cells_alloc h _
  have k5 : Cells W9 (n + 1 + 1 + 1 + 1 + 1) 91 #[fv] := by
    have h := cells_new (((((w3.alloc (.cells #[.map (some mB)] 89)).alloc (.map #[] 0)).alloc (.cells #[.map (some (n + 1))] 89)).alloc (.cells #[.int .u64 (id : Int)] 27)).alloc (.cells #[.bool false] 4)) 91 #[fv]
    rw [z5] at h
    exact h
  have hout : ∀ b, n ≤ b → x.who b = .out := fun b hb => Classical.byContradiction fun h => by
    have h3 : b < n := H.lt b h
    omega
  refine ⟨⟨H.below hb, (hb.cell l1).trans h1, (hb.cell l2).trans h2, (cell_of_row _ _ 0 _ _ _ k2).trans rfl, (cell_of_row _ _ 0 _ _ _ k0).trans rfl, (cell_of_row _ _ 0 _ _ _ k5).trans rfl, set_kept hset (hb.block _ l3), fun b hb => ?_, by omega, by omega, by omega⟩, ⟨hsm, k4, k3⟩, hb⟩
  rcases hb with rfl | rfl | rfl <;> exact ⟨hout _ (by omega), by omega, by omega, by omega, by omega, by omega, by omega⟩
theorem te_top {w : World} {g : Nat} {S : St} {x : Gh} {N : Nat} (H : Tab w g S x N) {a z : Nat} (h : TE S a z) : z < top := by
  cases h with
  | one h => exact edge_top H h
  | snoc _ h => exact edge_top H h
theorem ev_ge {n b : Nat} (h : Ev (n + 1) (n + 1 + 1 + 1 + 1) (n + 1 + 1 + 1) b) : n ≤ b := by rcases h with e | e | e <;> omega
theorem below_ev {w W2 w3 W9 w10 : World} {mM cr cg : Nat} (h1 : Below w.heap.size w W2) (h2 : Below W2.heap.size W2 w3) (h3 : Below w3.heap.size w3 W9) (t : Turned (Ev mM cr cg) W9 w10) (he : ∀ b, Ev mM cr cg b → w3.heap.size ≤ b) : Below w.heap.size w w10 :=
  have hs := Nat.le_trans h1.size h2.size
  Turned.to_below ((h1.trans (h2.mono h1.size)).trans (h3.mono hs)) t (fun b hb => Nat.le_trans hs (he b hb)) (Nat.le_trans hs h3.size)
set_option maxRecDepth 100000 in
set_option maxHeartbeats 4000000 in
theorem victim_any {w : World} {g : Nat} {S : St} {x : Gh} {N : Nat} (H : Tab w g S x N) (hN : N < 8796093022208) {id : Nat} (ho : id < top) {U : List Nat} (hU : ∀ a u, Edge S a u → u ∈ U) (hUl : U.length < 8796093022208) (hk : ∀ o, (S.waits o).2 ≠ 0 → ∃ k, x.lk (S.waits o).1 = some k) (hnd : ∀ n, ((S.queue n).map (·.1)).Nodup) :
    Calls Try.prog 18 #[.pointer (some ⟨g, 0, none⟩), .int .u64 (id : Int)] w (VictimTells w S id) := by
  obtain ⟨W2, hW2⟩ : ∃ W2, W2 = (w.alloc (.cells #[.pointer (some ⟨g, 0, none⟩)] 22)).alloc (.cells #[.int .u64 (id : Int)] 27) := ⟨_, rfl⟩
  have hb2 : Below w.heap.size w W2 := by rw [hW2]; exact (below_alloc w _).trans ((below_alloc _ _).mono (by rw [size_alloc]; omega))
  have HWT := Lib.hid (waiters_any (H.below hb2) hN ho hU hUl hk hnd)
  have HH := Lib.hid H; have HID := Lib.hid ho; have HU := Lib.hid hU; have HKK := Lib.hid hk; have HND := Lib.hid hnd; have HB2 := Lib.hid hb2
  have HW2 := Lib.hid hW2
  have HSZ2 : Hid (W2.heap.size = w.heap.size + 2) := Lib.hid (by rw [hW2, size_alloc, size_alloc])
  have HC1 : Hid (Cells W2 w.heap.size 22 #[.pointer (some ⟨g, 0, none⟩)]) := Lib.hid (by rw [hW2]; exact cells_alloc (cells_new w _ _) _)
  have HC2 : Hid (Cells W2 (w.heap.size + 1) 27 #[.int .u64 (id : Int)]) := Lib.hid (by
    have := cells_new (w.alloc (.cells #[.pointer (some ⟨g, 0, none⟩)] 22)) 27 #[.int .u64 (id : Int)]
    rw [size_alloc] at this
    rw [hW2]; exact this)
  rw [hW2] at HWT
  have hmm := @run_makeMap Try.prog
  generalize hR : VictimTells w S id = R
  have HR := Lib.hid hR
  clear H ho hU hk hb2 hR hW2 hnd
  go_enter Try.func18, Try.ntmps18
  go_wp2_with (first | (go_at_call 43; refine HWT.out.mono ?_; rintro e w3 ⟨mB, nB, L, rfl, hb3, hlo, hL, hset⟩; rw [← HW2.out] at hb3 hlo; have HB3 := Lib.hid hb3; have HLO := Lib.hid hlo; have HL := Lib.hid hL; have HSET := Lib.hid hset; have hs3 : w.heap.size + 2 ≤ w3.heap.size := (by have h1 := HSZ2.out; have h2 := hb3.size; omega); have t3 : w3.cell? ⟨w.heap.size, 0, none⟩ = some (.pointer (some ⟨g, 0, none⟩)) := (cell_of_row _ _ 0 _ _ _ (cells_kept HC1.out (hb3.block _ (by rw [HSZ2.out]; omega)))).trans rfl; have i3 : w3.cell? ⟨w.heap.size + 1, 0, none⟩ = some (.int .u64 (id : Int)) := (cell_of_row _ _ 0 _ _ _ (cells_kept HC2.out (hb3.block _ (by rw [HSZ2.out]; omega)))).trans rfl; have hs4 : w.heap.size + 1 < w3.heap.size := (by omega); have hs5 : w.heap.size < w3.heap.size := (by omega); have i6 : (((w3.alloc (.cells #[.map (some mB)] 89)).alloc (.map #[] 0)).alloc (.cells #[.map (some (w3.heap.size + 1))] 89)).cell? ⟨w.heap.size + 1, 0, none⟩ = some (.int .u64 (id : Int)) := (((below_alloc w3 _).trans ((below_alloc _ _).mono (by rw [size_alloc]; omega))).trans ((below_alloc _ _).mono (by rw [size_alloc, size_alloc]; omega)) |>.cell hs4).trans i3; obtain ⟨gv, gs, gb⟩ := vic_ground ((HH.out.below HB2.out).below hb3) t3 i3 hset; have c9 := gv.w0; have i9 := gv.i0; have HGV := Lib.hid gv; have HGB := Lib.hid gb; have HC := Lib.hid (vic_any (U := U) HU.out hN HKK.out HND.out (rest U (fun _ => False) + 1) _ id 0 _ id false gv gs (by omega) (by have := rest_len (U := U); omega) HID.out HID.out); clear gv gs gb; clear hb3 hlo hL hset) | (go_at_call 44; refine HC.out.mono ?_; rintro e w10 ⟨rfl, n9, M9, G9, R9, vs9, s9, t9, e9, v9, -, -⟩; have hend := vic_end (B := Reach L id) (fun z hz => ⟨reach_te HL.out, te_reach HL.out (fun a b h => edge_top HH.out h) (te_top HH.out hz)⟩) e9 v9; have HB10 : Hid (Below w.heap.size w w10) := Lib.hid (below_ev HB2.out HB3.out HGB.out t9 (fun b hb => ev_ge hb)); have r10 : w10.cell? ⟨w3.heap.size + 1 + 1 + 1 + 1, 0, none⟩ = some (.bool R9) := (cell_of_row _ _ 0 _ _ _ s9.r0).trans rfl; have g10 : w10.cell? ⟨w3.heap.size + 1 + 1 + 1, 0, none⟩ = some (.int .u64 (G9 : Int)) := (cell_of_row _ _ 0 _ _ _ s9.g0).trans rfl; have HEND := Lib.hid hend; clear hend s9 t9 e9 v9 c9 i9 i6 t3 i3 hs3 hs4 hs5; cases R9))
  · have HX : Hid (R (.returned (.tuple #[.int .u64 0, .bool false])) w10) := Lib.hid (by
      rw [← HR.out]
      exact ⟨HB10.out, .inl ⟨(fun h => absurd (HEND.out.1.2 h) (by simp)), rfl⟩⟩)
    go_wp2_with fail
    exact HX.out
  · have HX : Hid (R (.returned (.tuple #[.int .u64 (G9 : Int), .bool true])) w10) := Lib.hid (by
      rw [← HR.out]
      exact ⟨HB10.out, .inr ⟨HEND.out.1.1 (by simp), G9, rfl, HEND.out.2⟩⟩)
    go_wp2_with fail
    exact HX.out
end Go.Proofs.Ythanjncpgcmnaaa

/- GetReply: contracts. -/
import Derived.Test.YteplapigkofgaaaDoorWirRep
namespace Go.Proofs.YteplapigkofgaaaDoor
open Go.ChangeShapes Go.WideShapes Go.ChangeAt Go.RowKit

theorem results_get {fn : Func} {p u v : Tmp} (h : fn.results = #[.cell p 28, .tmp u, .tmp v]) {tmps : Array Value} {w : World} {g : Nat} {x y : Value} (hp : tmps.getD p undef = .pointer (some ⟨g, 0, none⟩)) (hu : tmps.getD u undef = x) (hv : tmps.getD v undef = y)
    (hA : Cells w g 28 #[.int .i64 0, .int .i64 0, .slice none 0 0, .int .i64 0]) : (results fn tmps).run Tryd.prog w = .ok (.tuple #[.agg #[.int .i64 0, .int .i64 0, .slice none 0 0, .int .i64 0], x, y]) w := by
  have hp' : tmps[p]?.getD undef = .pointer (some ⟨g, 0, none⟩) := by simpa using hp
  have hu' : tmps[u]?.getD undef = x := by simpa using hu
  have hv' : tmps[v]?.getD undef = y := by simpa using hv
  simp [results, h, hp', hu', hv', asAddr, load_reply hA]
/-- What GetReply tells where it tells no reply, or an empty one. -/
def Got (w : World) (q d : Nat) (e : Ending) (w' : World) : Prop := e = .returned (.tuple #[.agg #[.int .i64 0, .int .i64 0, .slice none 0 0, .int .i64 0], .int .i64 (q : Int), .int .i64 (d : Int)]) ∧ Below w.heap.size w w'
/-- Four cells written over with what an empty reply has. -/
def set4 (w : World) (g : Nat) : World := (((w.setCell ⟨g, 0, none⟩ (.int .i64 0)).setCell ⟨g, 1, none⟩ (.int .i64 0)).setCell ⟨g, 2, none⟩ (.slice none 0 0)).setCell ⟨g, 3, none⟩ (.int .i64 0)
theorem set4_cells {w : World} {g : Nat} (h : Cells w g 28 #[.int .i64 0, .int .i64 0, .slice none 0 0, .int .i64 0]) : Cells (set4 w g) g 28 #[.int .i64 0, .int .i64 0, .slice none 0 0, .int .i64 0] :=
  cells_setCell (o := 3) (v := .int .i64 0) (cells_setCell (o := 2) (v := .slice none 0 0) (cells_setCell (o := 1) (v := .int .i64 0) (cells_setCell (o := 0) (v := .int .i64 0) h)))
theorem set4_below {w w' : World} {g : Nat} (h : Below w.heap.size w w') (hg : w.heap.size ≤ g) : Below w.heap.size w (set4 w' g) := (((h.setCell hg _).setCell hg _).setCell hg _).setCell hg _
theorem set4_is (w : World) (g : Nat) : (((w.setCell ⟨g, 0, none⟩ (.int .i64 0)).setCell ⟨g, 1, none⟩ (.int .i64 0)).setCell ⟨g, 2, none⟩ (.slice none 0 0)).setCell ⟨g, 3, none⟩ (.int .i64 0) = set4 w g := rfl
structure Four (w : World) (g : Nat) : Prop where
  a0 : w.cell? ⟨g, 0, none⟩ = some (.int .i64 0)
  a1 : w.cell? ⟨g, 1, none⟩ = some (.int .i64 0)
  a2 : w.cell? ⟨g, 2, none⟩ = some (.slice none 0 0)
  a3 : w.cell? ⟨g, 3, none⟩ = some (.int .i64 0)
  z0 : w.frozen? ⟨g, 0, none⟩ = false
  z1 : w.frozen? ⟨g, 1, none⟩ = false
  z2 : w.frozen? ⟨g, 2, none⟩ = false
  z3 : w.frozen? ⟨g, 3, none⟩ = false
theorem four_of {w : World} {g : Nat} (h : Cells w g 28 #[.int .i64 0, .int .i64 0, .slice none 0 0, .int .i64 0]) : Four w g :=
  ⟨by rw [cell_of_row w g 0 _ _ _ h]; rfl, by rw [cell_of_row w g 1 _ _ _ h]; rfl, by rw [cell_of_row w g 2 _ _ _ h]; rfl, by rw [cell_of_row w g 3 _ _ _ h]; rfl, frozen_of_row _ _ _ _ _ h, frozen_of_row _ _ _ _ _ h, frozen_of_row _ _ _ _ _ h, frozen_of_row _ _ _ _ _ h⟩
set_option maxHeartbeats 1000000 in
set_option maxRecDepth 20000 in
theorem get_bad {w : World} {a : Option Addr} {cap n q d : Nat} {zs : List Nat} (hb : BytesAt w a zs) (hl : zs.length = n) (hcap : n ≤ cap) (hT : TabAt w) (hh : headOf zs = (q, d)) (hd : ¬ d = 0) :
    Calls Tryd.prog 7 #[.slice a n cap] w (Got w q d) := by
  have HF : Hid (∀ V, Below w.heap.size w V → Calls Tryd.prog 14 #[.slice a n cap] V fun e w' => e = .returned (.tuple #[.slice none 0 0, .int .i64 (q : Int), .int .i64 (d : Int)]) ∧ Below V.heap.size V w') := Lib.hid (fun V hV => (frame_any (bytes_below hb hV) hl hcap (tab_below hT hV)).mono fun e w' h => by
    unfold FrameOut at h
    rw [hh] at h
    rcases h with ⟨_, h1, h2⟩ | ⟨h1, _⟩
    · exact ⟨h1, h2⟩
    · exact absurd h1 hd)
  generalize hQ : Got w q d = Q
  have HQ := Lib.hid hQ
  clear hQ hb hl hT hh hcap
  go_enter Tryd.func7, Tryd.ntmps7
  go_wp2_with fail
  have HB1 : Hid (Below w.heap.size w (w.alloc (.cells #[.int .i64 0, .int .i64 0, .slice none 0 0, .int .i64 0] 28))) := Lib.hid (below_alloc _ _)
  have HA1 : Hid (Cells (w.alloc (.cells #[.int .i64 0, .int .i64 0, .slice none 0 0, .int .i64 0] 28)) w.heap.size 28 #[.int .i64 0, .int .i64 0, .slice none 0 0, .int .i64 0]) := Lib.hid (cells_new _ _ _)
  generalize w.alloc (.cells #[.int .i64 0, .int .i64 0, .slice none 0 0, .int .i64 0] 28) = w1 at HB1 HA1 ⊢
  refine (HF.out w1 HB1.out).mono ?_
  rintro e w2 ⟨rfl, hb2⟩
  have HA2 := Lib.hid (cells_below HA1.out hb2)
  have HB2 := Lib.hid (HB1.out.trans (hb2.mono HB1.out.size))
  obtain ⟨a0, a1, a2, a3, z0, z1, z2, z3⟩ := four_of HA2.out
  clear hb2
  go_wp2_with fail
  have hA := set4_cells HA2.out
  have hB := set4_below HB2.out (Nat.le_refl _)
  rw [set4_is]
  (try simp only [Exit.inBlock, Exit.then])
  refine bodyPost_ret (results_get rfl rfl rfl rfl hA) rfl ?_
  rw [← HQ.out]
  exact ⟨rfl, hB⟩
/-- What holds at a frame of ten noughts. -/
theorem frame0_head : headOf frame0 = (18, 0) := by decide +kernel
theorem frame0_body : (frame0.drop 4).take 10 = body0 := by decide +kernel
theorem frame0_len : frame0.length = 18 := by decide +kernel
theorem ten_of {w : World} {b off : Nat} (h : BytesAt w (some ⟨b, off, none⟩) body0) : Ten w b off := fun j hj => by
  have hc := (cell_at h (n := 10) rfl j hj).1
  rw [hc]
  have : ∀ i : Fin 10, body0.getD i.val 0 = 0 := by decide
  rw [this ⟨j, hj⟩]
  rfl
set_option maxHeartbeats 1000000 in
set_option maxRecDepth 20000 in
theorem get_empty {w : World} {a : Option Addr} {cap : Nat} (hb : BytesAt w a frame0) (hcap : 18 ≤ cap) (hT : TabAt w) :
    Calls Tryd.prog 7 #[.slice a 18 cap] w (Got w 18 0) := by
  have hmf : ∀ (fn : Fn) (first cap : Array Value) (w : World), (Instr.makeFunc fn first cap).run Tryd.prog w = .ok (.func fn first cap) w := fun _ _ _ _ => rfl
  have HF : Hid (∀ V, Below w.heap.size w V → Calls Tryd.prog 14 #[.slice a 18 cap] V fun e w' => ∃ b off, e = .returned (.tuple #[.slice (some ⟨b, off, none⟩) 10 10, .int .i64 18, .int .i64 0]) ∧ Ten w' b off ∧ Below V.heap.size V w') := Lib.hid (fun V hV => (frame_any (bytes_below hb hV) frame0_len hcap (tab_below hT hV)).mono fun e w' h => by
    unfold FrameOut at h
    rw [frame0_head] at h
    rcases h with ⟨h1, _⟩ | ⟨_, s, h1, _, v, h2, h3, h4⟩
    · exact absurd rfl h1
    · obtain rfl : s = 10 := by omega
      rw [frame0_body] at h3
      obtain ⟨b, off, rfl, _⟩ := byte_at h3 (n := 10) rfl 0 (by decide)
      exact ⟨b, off, h2, ten_of h3, h4⟩)
  have HW : Hid (∀ V p b off, Cur V p b off 10 0 → Ten V b off → b ≠ p → Calls Tryd.prog 15 #[.pointer (some ⟨p, 0, none⟩), .func (.func 16) #[.pointer (some ⟨p, 0, none⟩)] #[]] V fun e w' => e = .returned (.tuple #[.agg #[.int .i64 0, .int .i64 0, .slice none 0 0, .int .i64 0], .int .i64 0]) ∧ Turned (fun k => k = p) V w') := Lib.hid (fun V p b off hc hz hp => whole_any hc (Nat.le_refl _) hz hp)
  generalize hQ : Got w 18 0 = Q
  have HQ := Lib.hid hQ
  clear hQ hb hT hcap
  go_enter Tryd.func7, Tryd.ntmps7
  go_wp2_with fail
  have HB1 : Hid (Below w.heap.size w (w.alloc (.cells #[.int .i64 0, .int .i64 0, .slice none 0 0, .int .i64 0] 28))) := Lib.hid (below_alloc _ _)
  have HA1 : Hid (Cells (w.alloc (.cells #[.int .i64 0, .int .i64 0, .slice none 0 0, .int .i64 0] 28)) w.heap.size 28 #[.int .i64 0, .int .i64 0, .slice none 0 0, .int .i64 0]) := Lib.hid (cells_new _ _ _)
  generalize w.alloc (.cells #[.int .i64 0, .int .i64 0, .slice none 0 0, .int .i64 0] 28) = w1 at HB1 HA1 ⊢
  refine (HF.out w1 HB1.out).mono ?_
  rintro e w2 ⟨b, off, rfl, hz2, hb2⟩
  have HZ2 := Lib.hid hz2
  have HA2 := Lib.hid (cells_below HA1.out hb2)
  have HB2 := Lib.hid (HB1.out.trans (hb2.mono HB1.out.size))
  clear hb2 hz2
  go_wp2_with fail
  have HC3 : Hid (Cur (w2.alloc (.cells #[.slice (some ⟨b, off, none⟩) 10 10, .int .i64 0] 49)) w2.heap.size b off 10 0) := Lib.hid (cells_new _ _ _)
  have HZ3 : Hid (Ten (w2.alloc (.cells #[.slice (some ⟨b, off, none⟩) 10 10, .int .i64 0] 49)) b off) := Lib.hid (ten_below HZ2.out (below_alloc _ _))
  have HA3 : Hid (Cells (w2.alloc (.cells #[.slice (some ⟨b, off, none⟩) 10 10, .int .i64 0] 49)) w.heap.size 28 #[.int .i64 0, .int .i64 0, .slice none 0 0, .int .i64 0]) := Lib.hid (cells_alloc HA2.out _)
  have HB3 : Hid (Below w.heap.size w (w2.alloc (.cells #[.slice (some ⟨b, off, none⟩) 10 10, .int .i64 0] 49))) := Lib.hid (below_alloc' HB2.out _)
  have hbp : b ≠ w2.heap.size := Nat.ne_of_lt (World.block_lt_of_cell? w2 _ (HZ2.out 0 (by decide)))
  have hap : w.heap.size ≠ w2.heap.size := by have := (Array.getElem?_eq_some_iff.1 HA2.out).1; omega
  have hsz : w.heap.size ≤ w2.heap.size := HB2.out.size
  generalize w2.alloc (.cells #[.slice (some ⟨b, off, none⟩) 10 10, .int .i64 0] 49) = w3 at HC3 HZ3 HA3 HB3 ⊢
  refine (HW.out w3 _ b off HC3.out HZ3.out hbp).mono ?_
  rintro e w4 ⟨rfl, ht4⟩
  have HA4 := Lib.hid (cells_turned HA3.out ht4 hap)
  have HB4 : Hid (Below w.heap.size w w4) := Lib.hid (Turned.to_below HB3.out ht4 (fun k e => e ▸ hsz) HB3.out.size)
  obtain ⟨a0, a1, a2, a3, z0, z1, z2, z3⟩ := four_of HA4.out
  clear ht4
  go_wp2_with fail
  have hA := set4_cells (set4_cells HA4.out)
  have hB := set4_below (set4_below HB4.out (Nat.le_refl _)) (Nat.le_refl _)
  rw [set4_is, set4_is]
  (try simp only [Exit.inBlock, Exit.then])
  refine bodyPost_ret (results_get rfl rfl rfl rfl hA) rfl ?_
  rw [← HQ.out]
  exact ⟨rfl, hB⟩
end Go.Proofs.YteplapigkofgaaaDoor

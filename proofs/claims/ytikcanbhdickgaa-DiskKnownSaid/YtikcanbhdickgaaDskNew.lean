/- A new device. -/
import Derived.Test.YtikcanbhdickgaaDskSync
namespace Go.Proofs.Ytikcanbhdickgaa
open Go.ChangeShapes Go.WideShapes Go.ChangeAt Go.RowKit

/-- A new device, its pages' blocks new or among these. -/
def NewDev (w : World) (J : Nat → Prop) (S : Dsk) (r : Value → Value) (e : Ending) (w' : World) : Prop := ∃ x, e = .returned (r (.pointer (some ⟨x.g, 0, none⟩))) ∧ Dev w' S x ∧ Below w.heap.size w w' ∧ (∀ k, Ex x k → w.heap.size ≤ k) ∧ Grows w J x.I
def fresh (n room : Nat) : Dsk := ⟨List.replicate n noughts, [], none, [], room, 0, [], [], none, 0, false⟩
theorem infoPtr : (Try.prog.info? 70).map (fun i => (i.zero, i.size, i.bytes)) = some (some (.pointer none), 1, 8) := by kernel_rfl
theorem rowPtr : ∃ i, Rowy Try.prog 61 70 i (.pointer none) 1 8 := by
  obtain ⟨i0, hi, hz0, hz1, hz2⟩ := info_parts infoPtr
  exact ⟨i0, Try.underlying61, hi, hz0, hz1, hz2, rfl⟩
theorem made_nils (n : Nat) : madeCells (Value.cells (.pointer none)) n = Array.replicate n (Value.pointer none) := by
  apply Array.toList_inj.1
  rw [show Value.cells (.pointer none) = #[.pointer none] from rfl, toList_madeCells_one, Array.toList_replicate]
theorem dlast_empty {w : World} {mb : Nat} (h : w.heap[mb]? = some (.map #[] 0)) (np : Nat) : DLast w mb 0 (.map []) np [] :=
  ⟨⟨#[], 0, h, ⟨by simp, Go.MapKept.stamped_empty 0, by simp⟩, Nat.le_refl _, rfl⟩, fun n => rfl, (fun kl hk => by cases hk), Nat.le_refl _⟩
theorem new_make (n : Nat) (hn : n ≤ 65536) (w : World) : (Instr.makeSlice 61 (.int .i64 (n : Int)) (.int .i64 (n : Int))).run Try.prog w = .ok (.slice (some ⟨w.heap.size, 0, none⟩) n n) (w.alloc (.cells (Array.replicate n (Value.pointer none)) 70)) := by
  obtain ⟨i0, R⟩ := rowPtr
  have := run_make (P := Try.prog) w 61 70 i0 (.pointer none) R.ht R.hi R.hz .i64 .i64 n n (by omega) (Int.le_refl _) (by rw [R.hby]; omega) (by omega)
  rw [R.hsz, Int.toNat_natCast, Nat.mul_one, made_nils] at this
  exact this
theorem new_dev (w : World) (n room : Nat) (hn : n ≤ 65536) (hr : room ≤ 16777216) :
    Dev (((w.alloc (.cells (Array.replicate n (Value.pointer none)) 70)).alloc (.map #[] 0)).alloc (.cells #[.slice (some ⟨w.heap.size, 0, none⟩) n n, .map (some (w.heap.size + 1)), .slice none 0 0, .pointer none, .slice none 0 0, .int .i64 (room : Int), .int .i64 0, .slice none 0 0, .slice none 0 0, .bool false, .int .i64 0, .int .i64 0, .bool false] 68))
      (fresh n room) ⟨w.heap.size + 2, w.heap.size + 1, 0, .map [], some w.heap.size, none, none, none, none, .slice (some ⟨w.heap.size, 0, none⟩) n n, .slice none 0 0, .slice none 0 0, .slice none 0 0, .slice none 0 0, List.replicate n (none, noughts), [], none, 0, fun _ => False⟩ := by
  have hc0 : Cells (w.alloc (.cells (Array.replicate n (Value.pointer none)) 70)) w.heap.size 70 (Array.replicate n (Value.pointer none)) := cells_new w _ _
  have hs1 : (w.alloc (.cells (Array.replicate n (Value.pointer none)) 70)).heap.size = w.heap.size + 1 := size_alloc _ _
  generalize w.alloc (.cells (Array.replicate n (Value.pointer none)) 70) = w1 at hc0 hs1 ⊢
  have hc1 : (w1.alloc (.map #[] 0)).heap[w.heap.size + 1]? = some (.map #[] 0) := by rw [← hs1]; exact heap_alloc_new w1 _
  have hc0' := cells_alloc hc0 (.map #[] 0)
  have hs2 : (w1.alloc (.map #[] 0)).heap.size = w.heap.size + 2 := by rw [size_alloc, hs1]
  generalize w1.alloc (.map #[] 0) = w2 at hc0' hc1 hs2 ⊢
  generalize hv : #[Value.slice (some ⟨w.heap.size, 0, none⟩) n n, .map (some (w.heap.size + 1)), .slice none 0 0, .pointer none, .slice none 0 0, .int .i64 (room : Int), .int .i64 0, .slice none 0 0, .slice none 0 0, .bool false, .int .i64 0, .int .i64 0, .bool false] = cs
  have hc2 := cells_new w2 68 cs
  have hc0 := cells_alloc hc0' (.cells cs 68)
  have hm : (w2.alloc (.cells cs 68)).heap[w.heap.size + 1]? = some (.map #[] 0) := ((below_alloc w2 _).block _ (by omega)).trans hc1
  have hs3 : (w2.alloc (.cells cs 68)).heap.size = w.heap.size + 3 := by rw [size_alloc, hs2]
  rw [hs2] at hc2
  generalize w2.alloc (.cells cs 68) = w3 at hc0 hc2 hm hs3 ⊢
  subst hv
  exact {
    cells := hc2
    sure := ⟨⟨by simp, (fun u hu => by simp at hu; obtain ⟨_, rfl⟩ := hu; rfl), .inr ⟨w.heap.size, 0, n, rfl, by simp, by omega, by simp, by unfold maxLen; omega, fun j u hu => by
        rw [cell_of_row _ _ _ _ _ _ hc0, Nat.zero_add]
        rw [Array.getElem?_replicate]
        rw [List.map_replicate, List.getElem?_replicate] at hu
        exact hu, fun j hj => by
        rw [cell_of_row _ _ _ _ _ _ hc0, frozen_of_row _ _ _ _ _ hc0, Nat.zero_add]
        exact ⟨by simp; omega, rfl⟩⟩⟩, fun p hp => by
        rw [List.mem_replicate] at hp
        obtain ⟨_, rfl⟩ := hp
        exact .inl ⟨rfl, rfl⟩, by simp [fresh], by simpa using hn⟩
    last := dlast_empty hm _
    wait := ⟨slc_nil _ _, (fun y hy => by cases hy), rfl⟩
    torn := ⟨(fun t ht => by cases ht), rfl⟩
    log := ⟨slc_nil _ _, (fun c hc => by cases hc)⟩
    half := ⟨slc_nil _ _, (fun c hc => by cases hc)⟩
    mark := ⟨slc_nil _ _, (fun c hc => by cases hc)⟩
    keptI := ⟨(fun b e => by cases e), (fun b e => by cases e)⟩
    num := ⟨Nat.zero_le _, hr, Nat.le_refl _, Nat.zero_le _, by simp [fresh], Nat.le_refl _⟩
    left := ⟨⟨by simp, by simp⟩, (fun n h => by cases h)⟩
    apart := ⟨by simp, by simp, by simp, by simp, by simp, by simp, by simp, .inr (by simp), .inr (by simp), .inl rfl⟩
    out := fun k hk => by cases hk }
theorem new_does (n room : Nat) (h1 : 1 ≤ n) (hn : n ≤ 65536) (hr : room ≤ 16777216) (w : World) : Calls Try.prog 11 #[.int .i64 (n : Int), .int .i64 (room : Int)] w (NewDev w (fun _ => False) (fresh n room) (fun v => .tuple #[v, .int .i64 0])) := by
  have hm := new_make n hn w
  have HD := Lib.hid (new_dev w n room hn hr)
  generalize hQ : NewDev w (fun _ => False) (fresh n room) (fun v => .tuple #[v, .int .i64 0]) = Q
  have HQ := Lib.hid hQ
  have d1 : decide ((n : Int) < 1) = false := decide_eq_false (by omega)
  have d2 : decide (65536 < (n : Int)) = false := decide_eq_false (by omega)
  have d3 : decide ((room : Int) < 0) = false := decide_eq_false (by omega)
  have d4 : decide (16777216 < (room : Int)) = false := decide_eq_false (by omega)
  have hmm : ∀ V, (Instr.makeMap 62 none).run Try.prog V = .ok (.map (some V.heap.size)) (V.alloc (.map #[] 0)) := fun V => rfl
  clear hQ
  go_enter Try.func11, Try.ntmps11
  go_wp2
  rw [← HQ.out]
  refine ⟨_, rfl, HD.out, ((below_alloc w _).alloc (by rw [size_alloc]; omega) _).alloc (by rw [size_alloc, size_alloc]; omega) _, fun k hk => ?_, fun k hk => by cases hk⟩
  rcases hk with rfl | rfl | hk | hk | hk
  · exact Nat.le_add_right _ _
  · exact Nat.le_add_right _ _
  · exact Nat.le_of_eq (Option.some.inj hk)
  · cases hk
  · cases hk
theorem new_arg (n room : Int) (h : n < 1 ∨ 65536 < n ∨ room < 0 ∨ 16777216 < room) (w : World) : Calls Try.prog 11 #[.int .i64 n, .int .i64 room] w fun e w' => e = .returned (.tuple #[.pointer none, .int .i64 1]) ∧ w = w' := by
  have go : ∀ b1 b2 b3 b4, decide (n < 1) = b1 → decide (65536 < n) = b2 → decide (room < 0) = b3 → decide (16777216 < room) = b4 → (b1 || b2 || b3 || b4) = true → Calls Try.prog 11 #[.int .i64 n, .int .i64 room] w fun e w' => e = .returned (.tuple #[.pointer none, .int .i64 1]) ∧ w = w' := by
    clear h
    intro b1 b2 b3 b4 d1 d2 d3 d4 hb
    rcases b1 with _ | _
    · rcases b2 with _ | _
      · rcases b3 with _ | _
        · rcases b4 with _ | _
          · cases hb
          · clear hb
            go_enter Try.func11, Try.ntmps11
            go_wp2
            go_ret2
            exact ⟨rfl, rfl⟩
        · clear hb
          go_enter Try.func11, Try.ntmps11
          go_wp2
          go_ret2
          exact ⟨rfl, rfl⟩
      · clear hb
        go_enter Try.func11, Try.ntmps11
        go_wp2
        go_ret2
        exact ⟨rfl, rfl⟩
    · clear hb
      go_enter Try.func11, Try.ntmps11
      go_wp2
      go_ret2
      exact ⟨rfl, rfl⟩
  refine go _ _ _ _ rfl rfl rfl rfl ?_
  simp only [Bool.or_eq_true, decide_eq_true_eq]
  omega
/-- A choice's i-th byte. -/
def chose (zs : List Nat) (i : Nat) : Nat := zs.getD i 0
theorem chosen_any {a : Option Addr} {n cap : Nat} {zs : List Nat} {w : World} (hb : BytesAt w a zs) (hl : zs.length = n) (i : Nat) (hn : n ≤ maxLen) :
    Calls Try.prog 39 #[.slice a n cap, .int .i64 (i : Int)] w fun e w' => e = .returned (.int .i64 (chose zs i : Int)) ∧ w = w' := by
  have hn' : (n : Int) ≤ 9223372036854775807 := by unfold maxLen at hn; omega
  by_cases h : i < n
  · obtain ⟨b, off, rfl, hc⟩ := hb.2.2 i (by omega)
    have hlt := hb.1 zs[i] (List.getElem_mem (by omega))
    have e : chose zs i = zs[i] := by simp [chose, List.getD, show i < zs.length by omega]
    rw [e]
    generalize zs[i] = z at hc hlt ⊢
    have d : decide ((i : Int) < (n : Int)) = true := decide_eq_true (by omega)
    have d0 : decide ((i : Int) < 0) = false := decide_eq_false (by omega)
    have d2 : decide ((n : Int) ≤ i) = false := decide_eq_false (by omega)
    have d3 : decide (n ≤ i) = false := decide_eq_false (by omega)
    clear hb e
    go_enter Try.func39, Try.ntmps39
    go_wp2
    go_ret
    exact ⟨rfl, rfl⟩
  · have e : chose zs i = 0 := by simp [chose, List.getD, show zs.length ≤ i by omega]
    rw [e]
    have d : decide ((i : Int) < (n : Int)) = false := decide_eq_false (by omega)
    clear hb e
    go_enter Try.func39, Try.ntmps39
    go_wp2
    go_ret
    exact ⟨rfl, rfl⟩
end Go.Proofs.Ytikcanbhdickgaa

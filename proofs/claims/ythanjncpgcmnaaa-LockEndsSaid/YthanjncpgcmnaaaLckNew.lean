/- A name's lock, an owner's block: there, or made. -/
import Derived.Test.YthanjncpgcmnaaaLckTab
import Derived.Carry
namespace Go.Proofs.Ythanjncpgcmnaaa
open Go.ChangeShapes Go.WideShapes Go.ChangeAt Go.RowKit

/-- What is done to a table: its blocks alone, and new ones. -/
structure Steps (w w' : World) (x x' : Gh) : Prop where
  lm : x'.lm = x.lm
  om : x'.om = x.om
  ext : Ext w x.who x'.who
  turned : Turned (fun b => x.who b ≠ .out) w w'
theorem Steps.refl (w : World) (x : Gh) : Steps w w x x := ⟨rfl, rfl, Ext.refl _ _, Turned.refl _ _⟩
theorem Steps.trans {a b c : World} {x y z : Gh} (h : Steps a b x y) (k : Steps b c y z) : Steps a c x z :=
  ⟨k.lm.trans h.lm, k.om.trans h.om, h.ext.trans k.ext h.turned.size, h.turned.trans k.turned (fun i hi => by
    by_cases hlt : i < a.heap.size
    · left; show x.who i ≠ .out; rw [← h.ext i hlt]; exact hi
    · right; omega)⟩
theorem Steps.below {w w' : World} (x : Gh) (h : Below w.heap.size w w') : Steps w w' x x := ⟨rfl, rfl, Ext.refl _ _, Turned.of_below h⟩
theorem heap_alloc2 (w : World) (A B : Obj) : ((w.alloc A).alloc B).heap[w.heap.size]? = some A ∧ ((w.alloc A).alloc B).heap[w.heap.size + 1]? = some B ∧ ((w.alloc A).alloc B).heap.size = w.heap.size + 2 ∧ ∀ k, k < w.heap.size → ((w.alloc A).alloc B).heap[k]? = w.heap[k]? := by
  have e1 := size_alloc w A
  refine ⟨?_, ?_, ?_, fun k hk => ?_⟩
  · rw [heap_alloc_old _ _ (by rw [e1]; omega), heap_alloc_new]
  · rw [← e1, heap_alloc_new]
  · rw [size_alloc, e1]
  · rw [heap_alloc_old _ _ (by rw [e1]; omega), heap_alloc_old _ _ hk]
theorem lock_there {w : World} {g : Nat} {S : St} {x : Gh} {N : Nat} (H : Tab w g S x N) {nm : ByteArray} (hn : nm.size ≤ maxLen) {k : LkG} (hk : x.lk nm = some k) :
    Calls Try.prog 29 #[.pointer (some ⟨g, 0, none⟩), .string nm] w fun e w' => e = .returned (.pointer (some ⟨k.b, 0, none⟩)) ∧ w = w' := by
  obtain ⟨c0, c1⟩ := tab_cells H
  have hl := look_lk H.locks hn
  rw [hk] at hl
  simp only [Option.map_some, ptr] at hl
  clear H hk c1 hn
  go_enter Try.func29, Try.ntmps29
  go_wp2
  go_ret
  exact ⟨rfl, rfl⟩
/-- A lock that is made. -/
def LockMade (w : World) (g : Nat) (S : St) (x : Gh) (N : Nat) (nm : ByteArray) (e : Ending) (w' : World) : Prop :=
  ∃ k x', e = .returned (.pointer (some ⟨k.b, 0, none⟩)) ∧ Tab w' g S x' (N + 1) ∧ x'.lk = upd x.lk nm (some k) ∧ x'.ow = x.ow ∧ Steps w w' x x' ∧ k.cnt = 0 ∧ Owners w' x'.who x'.om S.held S.waits x'.ow N
theorem made_lock {w w3 : World} {g : Nat} {S : St} {x : Gh} {N : Nat} (H : Tab w g S x N) {nm : ByteArray} (hk : x.lk nm = none)
    (hm : MapAt w3 9 asIs x.lm (N + 1) kS (·.size ≤ maxLen) (upd (fun nm => (x.lk nm).map fun k => .held (ptr (some k.b))) nm (some (.held (ptr (some (w.heap.size + 1)))))))
    (ht : Turned (fun k => k = x.lm) ((w.alloc (.map #[] 0)).alloc (.cells #[.map (some w.heap.size), .slice none 0 0] 69)) w3) : LockMade w g S x N nm (.returned (.pointer (some ⟨w.heap.size + 1, 0, none⟩))) w3 := by
  obtain ⟨a1, a2, a3, a4⟩ := heap_alloc2 w (.map #[] 0) (.cells #[.map (some w.heap.size), .slice none 0 0] 69)
  have hmade := mapAt_made (K := 27) (R := plainElem Try.prog 3) (key := kU) (ok := (· < top)) w
  have hT : Turned (fun k => k = x.lm) w w3 := (((Turned.refl (fun k => k = x.lm) w).alloc _).alloc _).trans ht (Grows.refl _ _)
  generalize (w.alloc (.map #[] 0)).alloc (.cells #[.map (some w.heap.size), .slice none 0 0] 69) = w2 at a1 a2 a3 a4 ht
  have hlm : x.lm < w.heap.size := H.locks.own.lt
  have h3 : w3.heap[w.heap.size]? = some (.map #[] 0) := (ht.block _ (by omega) (by omega)).trans a1
  have h3' : w3.heap[w.heap.size + 1]? = some (.cells #[.map (some w.heap.size), .slice none 0 0] 69) := (ht.block _ (by omega) (by omega)).trans a2
  have hs : w.heap.size + 2 ≤ w3.heap.size := by have := ht.size; omega
  have htag := H.locks.tag
  have hE : Ext w x.who (upd (upd x.who w.heap.size (.hm nm)) (w.heap.size + 1) (.lk nm)) := fun b hb => by rw [upd_other _ _ (by omega), upd_other _ _ (by omega)]
  refine ⟨⟨w.heap.size + 1, w.heap.size, 0, none, .slice none 0 0⟩, { x with who := upd (upd x.who w.heap.size (.hm nm)) (w.heap.size + 1) (.lk nm), lk := upd x.lk nm (some ⟨w.heap.size + 1, w.heap.size, 0, none, .slice none 0 0⟩) }, rfl, ?_, rfl, rfl, ⟨rfl, rfl, hE, hT.mono (fun b e => by subst e; rw [htag]; decide)⟩, rfl, H.owners.kept hE (fun b hb => hT.block b (H.lt b (fun e => by rw [e] at hb; cases hb)) (fun e => by rw [e, htag] at hb; cases hb)) (Nat.le_refl _)⟩
  have hkb : ∀ b, x.who b ≠ .out → b ≠ x.lm → w3.heap[b]? = w.heap[b]? := fun b hb hne => hT.block b (H.lt b hb) hne
  have hg : g ≠ x.lm := fun e => by have := H.tag; rw [e, htag] at this; cases this
  refine ⟨cells_kept H.cells (hkb g (by rw [H.tag]; decide) hg), (hE g (cells_lt H.cells)).trans H.tag, ?_, ?_, fun b hb => ?_⟩
  · refine H.locks.new hk (by omega) hE (fun b hb hne => hkb b (fun e => by rw [e] at hb; cases hb) (fun e => hne (by rw [e, htag]))) (Nat.le_succ _) ?_ hm
    exact { cells := h3', own := (hmade.kept (h3.trans (heap_alloc_new w _).symm)).congr (fun o _ => rfl), few := by simp, le := fun _ => Nat.zero_le _, lt := fun _ h => absurd rfl h, slc := slc_nil _ _, qs := (fun p hp => by cases hp), tb := upd_same _ _ _, th := by show upd (upd x.who w.heap.size (.hm nm)) (w.heap.size + 1) (.lk nm) w.heap.size = _; rw [upd_other _ _ (by omega), upd_same], tq := (fun b e => by cases e) }
  · exact H.owners.kept hE (fun b hb => hkb b (fun e => by rw [e] at hb; cases hb) (fun e => by rw [e, htag] at hb; cases hb)) (Nat.le_succ _)
  · by_cases e1 : b = w.heap.size + 1
    · omega
    · by_cases e2 : b = w.heap.size
      · omega
      · have hb' : x.who b ≠ .out := by
          have : upd (upd x.who w.heap.size (.hm nm)) (w.heap.size + 1) (.lk nm) b ≠ .out := hb
          rwa [upd_other _ _ e1, upd_other _ _ e2] at this
        have := H.lt b hb'; omega
set_option maxHeartbeats 1000000 in
theorem lock_new {w : World} {g : Nat} {S : St} {x : Gh} {N : Nat} (H : Tab w g S x N) (hN : N < 4611686018427387904) {nm : ByteArray} (hn : nm.size ≤ maxLen) (hk : x.lk nm = none) :
    Calls Try.prog 29 #[.pointer (some ⟨g, 0, none⟩), .string nm] w (LockMade w g S x N nm) := by
  obtain ⟨c0, c1⟩ := tab_cells H
  have hl := look_lk H.locks hn
  rw [hk] at hl
  simp only [Option.map_none, ptr] at hl
  obtain ⟨a1, a2, a3, a4⟩ := heap_alloc2 w (.map #[] 0) (.cells #[.map (some w.heap.size), .slice none 0 0] 69)
  have hlm : x.lm < w.heap.size := H.locks.own.lt
  have hown2 := H.locks.own.kept (a4 _ hlm)
  obtain ⟨w3, hrun, hm3, ht3⟩ := hown2.put keysS (t := 57) (e := 63) Try.underlying57 (kv := .string nm) (v := ptr (some (w.heap.size + 1))) (a := nm) (d := .held (ptr (some (w.heap.size + 1)))) (ps := []) (by unfold maxLen; omega) (hkS hn) rfl (fun _ e => kS_inj e) (kS_key _) (upd_same _ _ _) (fun _ e => upd_other _ _ e)
  have HQ := Lib.hid (made_lock H hk hm3 ht3)
  have hgs : g < w.heap.size := cells_lt H.cells
  simp only [ptr, Option.map_some] at hrun
  generalize hR : LockMade w g S x N nm = R at HQ ⊢
  have hmm := @run_makeMap Try.prog
  clear H hn hk c1 a1 a2 a3 a4 hlm hown2 hm3 ht3 hR hN
  go_enter Try.func29, Try.ntmps29
  go_wp2
  exact HQ.out
theorem owner_there {w : World} {g : Nat} {S : St} {x : Gh} {N : Nat} (H : Tab w g S x N) {o : Nat} (ho : o < top) {k : OwG} (hk : x.ow o = some k) :
    Calls Try.prog 35 #[.pointer (some ⟨g, 0, none⟩), .int .u64 (o : Int)] w fun e w' => e = .returned (.pointer (some ⟨k.b, 0, none⟩)) ∧ w = w' := by
  obtain ⟨c0, c1⟩ := tab_cells H
  have hl := look_ow H.owners ho
  rw [hk] at hl
  simp only [Option.map_some, ptr] at hl
  clear H hk c0 ho
  go_enter Try.func35, Try.ntmps35
  go_wp2
  go_ret
  exact ⟨rfl, rfl⟩
/-- An owner that is made. -/
def OwnerMade (w : World) (g : Nat) (S : St) (x : Gh) (N : Nat) (o : Nat) (e : Ending) (w' : World) : Prop :=
  ∃ k x', e = .returned (.pointer (some ⟨k.b, 0, none⟩)) ∧ Tab w' g S x' N ∧ x'.ow = upd x.ow o (some k) ∧ x'.lk = x.lk ∧ Steps w w' x x' ∧ k.cnt = 0
theorem made_owner {w w3 : World} {g : Nat} {S : St} {x : Gh} {N M : Nat} (hNM : N ≤ M) (H : Tab w g S x N) {o : Nat} (hk : x.ow o = none)
    (hm : MapAt w3 27 asIs x.om M kU (· < top) (upd (fun o => (x.ow o).map fun k => .held (ptr (some k.b))) o (some (.held (ptr (some (w.heap.size + 1)))))))
    (ht : Turned (fun k => k = x.om) ((w.alloc (.map #[] 0)).alloc (.cells #[.map (some w.heap.size), .string ⟨#[]⟩, .int .i64 0] 79)) w3) : OwnerMade w g S x M o (.returned (.pointer (some ⟨w.heap.size + 1, 0, none⟩))) w3 := by
  obtain ⟨a1, a2, a3, a4⟩ := heap_alloc2 w (.map #[] 0) (.cells #[.map (some w.heap.size), .string ⟨#[]⟩, .int .i64 0] 79)
  have hmade := mapAt_made (K := 9) (R := plainElem Try.prog 3) (key := kS) (ok := (·.size ≤ maxLen)) w
  have hT : Turned (fun k => k = x.om) w w3 := (((Turned.refl (fun k => k = x.om) w).alloc _).alloc _).trans ht (Grows.refl _ _)
  generalize (w.alloc (.map #[] 0)).alloc (.cells #[.map (some w.heap.size), .string ⟨#[]⟩, .int .i64 0] 79) = w2 at a1 a2 a3 a4 ht
  have hlm : x.om < w.heap.size := H.owners.own.lt
  have h3 : w3.heap[w.heap.size]? = some (.map #[] 0) := (ht.block _ (by omega) (by omega)).trans a1
  have h3' : w3.heap[w.heap.size + 1]? = some (.cells #[.map (some w.heap.size), .string ⟨#[]⟩, .int .i64 0] 79) := (ht.block _ (by omega) (by omega)).trans a2
  have hs : w.heap.size + 2 ≤ w3.heap.size := by have := ht.size; omega
  have htag := H.owners.tag
  have hE : Ext w x.who (upd (upd x.who w.heap.size (.held o)) (w.heap.size + 1) (.ow o)) := fun b hb => by rw [upd_other _ _ (by omega), upd_other _ _ (by omega)]
  refine ⟨⟨w.heap.size + 1, w.heap.size, 0⟩, { x with who := upd (upd x.who w.heap.size (.held o)) (w.heap.size + 1) (.ow o), ow := upd x.ow o (some ⟨w.heap.size + 1, w.heap.size, 0⟩) }, rfl, ?_, rfl, rfl, ⟨rfl, rfl, hE, hT.mono (fun b e => by subst e; rw [htag]; decide)⟩, rfl⟩
  have hkb : ∀ b, x.who b ≠ .out → b ≠ x.om → w3.heap[b]? = w.heap[b]? := fun b hb hne => hT.block b (H.lt b hb) hne
  have hg : g ≠ x.om := fun e => by have := H.tag; rw [e, htag] at this; cases this
  refine ⟨cells_kept H.cells (hkb g (by rw [H.tag]; decide) hg), (hE g (cells_lt H.cells)).trans H.tag, ?_, ?_, fun b hb => ?_⟩
  · exact H.locks.kept (by omega) hE (fun b hb => hkb b (fun e => by rw [e] at hb; cases hb) (fun e => by rw [e, htag] at hb; cases hb)) hNM
  · refine H.owners.new hk hE (fun b hb hne => hkb b (fun e => by rw [e] at hb; cases hb) (fun e => hne (by rw [e, htag]))) hNM ?_ hm
    exact { cells := h3', own := (hmade.kept (h3.trans (heap_alloc_new w _).symm)).congr (fun o _ => rfl), few := by simp, le := fun _ => Nat.zero_le _, lt := fun _ h => absurd rfl h, wt := ⟨by decide, by decide⟩, tb := upd_same _ _ _, th := by show upd (upd x.who w.heap.size (.held o)) (w.heap.size + 1) (.ow o) w.heap.size = _; rw [upd_other _ _ (by omega), upd_same] }
  · by_cases e1 : b = w.heap.size + 1
    · omega
    · by_cases e2 : b = w.heap.size
      · omega
      · have hb' : x.who b ≠ .out := by
          have : upd (upd x.who w.heap.size (.held o)) (w.heap.size + 1) (.ow o) b ≠ .out := hb
          rwa [upd_other _ _ e1, upd_other _ _ e2] at this
        have := H.lt b hb'; omega
set_option maxHeartbeats 1000000 in
theorem owner_new_at {w : World} {g : Nat} {S : St} {x : Gh} {N M n0 : Nat} (hNM : N ≤ M) (H : Tab w g S x N) (h0 : MapAt w 27 asIs x.om n0 kU (· < top) (fun o => (x.ow o).map fun k => .held (ptr (some k.b)))) (hn0 : n0 + 1 ≤ M) (hN : M < 4611686018427387904) {o : Nat} (ho : o < top) (hk : x.ow o = none) :
    Calls Try.prog 35 #[.pointer (some ⟨g, 0, none⟩), .int .u64 (o : Int)] w (OwnerMade w g S x M o) := by
  obtain ⟨c0, c1⟩ := tab_cells H
  have hl := look_ow H.owners ho
  rw [hk] at hl
  simp only [Option.map_none, ptr] at hl
  obtain ⟨a1, a2, a3, a4⟩ := heap_alloc2 w (.map #[] 0) (.cells #[.map (some w.heap.size), .string ⟨#[]⟩, .int .i64 0] 79)
  have hlm : x.om < w.heap.size := H.owners.own.lt
  have hown2 := h0.kept (a4 _ hlm)
  obtain ⟨w3, hrun, hm3, ht3⟩ := hown2.put keysU (t := 58) (e := 80) Try.underlying58 (kv := .int .u64 (o : Int)) (v := ptr (some (w.heap.size + 1))) (a := o) (d := .held (ptr (some (w.heap.size + 1)))) (ps := []) (by unfold maxLen; omega) (hkU ho) rfl (fun _ e => kU_inj e) (kU_key _) (upd_same _ _ _) (fun _ e => upd_other _ _ e)
  have HQ := Lib.hid (made_owner hNM H hk (hm3.mono hn0) ht3)
  have hgs : g < w.heap.size := cells_lt H.cells
  simp only [ptr, Option.map_some] at hrun
  generalize hR : OwnerMade w g S x M o = R at HQ ⊢
  have hmm := @run_makeMap Try.prog
  clear H ho hk c0 a1 a2 a3 a4 hlm hown2 hm3 ht3 hR hN h0 hn0 hNM
  go_enter Try.func35, Try.ntmps35
  go_wp2
  exact HQ.out
theorem owner_new {w : World} {g : Nat} {S : St} {x : Gh} {N : Nat} (H : Tab w g S x N) (hN : N < 4611686018427387903) {o : Nat} (ho : o < top) (hk : x.ow o = none) :
    Calls Try.prog 35 #[.pointer (some ⟨g, 0, none⟩), .int .u64 (o : Int)] w (OwnerMade w g S x (N + 1) o) :=
  owner_new_at (Nat.le_succ _) H H.owners.own (Nat.le_refl _) (by omega) ho hk
end Go.Proofs.Ythanjncpgcmnaaa

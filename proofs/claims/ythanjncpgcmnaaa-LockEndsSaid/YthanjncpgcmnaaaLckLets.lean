/- Does a mode go together with all others'? A new table. -/
import Derived.Test.YthanjncpgcmnaaaLckPut
import Derived.Test.YthanjncpgcmnaaaLckJoin
namespace Go.Proofs.Ythanjncpgcmnaaa
open Go.ChangeShapes Go.WideShapes Go.ChangeAt Go.RowKit

/-- A mode goes together with those of all but an owner. -/
def Lets (h : Nat → Nat) (o : Nat) (m : Int) : Prop := ∀ a, a ≠ o → h a ≠ 0 → tog m (h a) = true
/-- So far. -/
def Seen (h : Nat → Nat) (o : Nat) (m : Int) (left : Lit → Bool) : Prop := ∀ a, a ≠ o → h a ≠ 0 → left (kU a) = false → tog m (h a) = true
def Told (w : World) (L : Prop) (e : Ending) (w' : World) : Prop := ∃ r : Bool, e = .returned (.bool r) ∧ (r = true ↔ L) ∧ Below w.heap.size w w'
theorem seen_step {h : Nat → Nat} {o : Nat} {m : Int} {left : Lit → Bool} (hs : Seen h o m left) {c : Nat} (hc : c = o ∨ tog m (h c) = true) : Seen h o m (fun z => left z && !z.sameKey (kU c)) := fun a ha h0 hl => by
  by_cases e : a = c
  · subst e
    rcases hc with hc | hc
    · exact absurd hc ha
    · exact hc
  · refine hs a ha h0 ?_
    have : Lit.sameKey (kU a) (kU c) = false := Maps.sameKey_ne (fun e' => e (kU_inj e'))
    simpa [this] using hl
set_option maxHeartbeats 1000000 in
theorem lets_any {w : World} {g : Nat} {S : St} {x : Gh} {N : Nat} (H : Tab w g S x N) {nm : ByteArray} {k : LkG} (hk : x.lk nm = some k) {o : Nat} (_ho : o < top) (m : Int) :
    Calls Try.prog 30 #[.pointer (some ⟨k.b, 0, none⟩), .int .u64 (o : Int), .int .i64 m] w (Told w (Lets (S.hold nm) o m)) := by
  have h := H.locks.each nm k hk
  obtain ⟨c0, c1⟩ := lk_cells h
  obtain ⟨D, hown, hat⟩ := h.own.ex
  generalize hh : S.hold nm = f at h ⊢
  rw [hh] at hat
  have HF : Hid (∀ a : Nat, a < top → ∀ z, D.atKey (kU a) z = (modes f a).getD z) := Lib.hid hat
  have HO := Lib.hid hown
  have HT := Lib.hid tog_any
  have HL : Hid (∀ a, f a ≠ 0 → a < top) := Lib.hid h.lt
  have hgs : k.b < w.heap.size := cells_lt h.cells
  generalize hR : Told w (Lets f o m) = R
  have HR := Lib.hid hR
  clear H hk h hh hat hown c1 hR
  go_enter Try.func30, Try.ntmps30
  go_wp2_with (at_range; refine wpList_range_own _ rfl _ 66 rfl 27 3 keysU Try.underlying66 _ k.hm k.cnt D rfl HO.out ?_; intro w2 hrg0 hg0 hs0)
  have hb0 : Below w.heap.size w w2 := ⟨hg0.os, hg0.tape, hg0.output, hg0.size, fun b hb => hg0.block b hb (by simp)⟩
  have HB0 := Lib.hid hb0; have HR0 := Lib.hid hrg0
  clear hg0 hs0 hb0 hrg0
  go_frame
  go_loopw [7, 8] (fun _ _ wr => ∃ (left : Lit → Bool) (cnt : Nat), Hid (wr.ranges Try.prog 27 (plainElem Try.prog 3) k.hm w.heap.size k.cnt D left cnt) ∧ Hid (Seen f o m left) ∧ Hid (Below w.heap.size w wr)) (fun _ _ wr => wr.rangeLeft k.hm w.heap.size)
  case atStart => exact ⟨_, _, HR0, Lib.hid (fun a ha h0 hl => by
    exfalso
    have h1 : Maps.has D (kU a) = true := Maps.has_true_of_atKey (y := .lit (.int .i64 (f a : Int))) (fun z => by rw [HF.out a (HL.out a h0)]; simp [modes, h0])
    rw [h1] at hl; cases hl), HB0⟩
  case round =>
    obtain ⟨left, cnt, hr, hse, hbl⟩ := hrel
    go_wp2_with (at_next; refine wpList_next_ranges_ii _ rfl _ rfl 27 3 .u64 .i64 keysU Try.underlying27 Try.underlying3 k.hm w.heap.size k.cnt D left cnt rfl hr.out ?_ ?_)
    · intro _ hl0
      have HLL := Lib.hid hl0
      clear hl0
      go_wp2
      rw [← HR.out]
      exact ⟨true, rfl, ⟨fun _ a ha h0 => hse.out a ha h0 (HLL.out _), fun _ => rfl⟩, hbl.out⟩
    · intro y c w1 cnt1 hwy hwc hly hac hrg1 hlt hg1 hs1 hen
      have hb1 : Below w.heap.size w w1 := ⟨hg1.os.trans hbl.out.os, hg1.tape.trans hbl.out.tape, hg1.output.trans hbl.out.output, Nat.le_trans hbl.out.size hg1.size, fun b hb => (hg1.block b (Nat.lt_of_lt_of_le hb hbl.out.size) (fun e => by cases e; exact Nat.lt_irrefl _ hb)).trans (hbl.out.block b hb)⟩
      have hyb := bounds_u64 hwy
      obtain ⟨y', rfl⟩ : ∃ y' : Nat, y = (y' : Int) := ⟨y.toNat, by omega⟩
      have hz := HF.out y' (by show y' < top; unfold top; omega)
      have hcf : c = (f y' : Int) ∧ f y' ≠ 0 := by
        have e1 := (hac (.held (.bool true))).symm.trans (hz (.held (.bool true)))
        unfold modes at e1
        split at e1
        · cases e1
        · rename_i h0
          simp only [Option.getD_some, DataW.lit.injEq, Lit.int.injEq, true_and] at e1
          exact ⟨e1, h0⟩
      obtain ⟨rfl, hf0⟩ := hcf
      have HB1 := Lib.hid hb1; have HG1 := Lib.hid hrg1; have HF0 := Lib.hid hf0; have HLT := Lib.hid hlt; have HS1 := Lib.hid hs1
      clear hb1 hrg1 hf0 hlt hs1 hz hac hg1 hwy hwc hly
      by_cases e : y' = o
      · subst e
        go_wp2_with (go_at_call 20; refine (HT.out _ _ _).mono ?_; rintro e w' ⟨rfl, hb⟩; have HB := Lib.hid hb; clear hb)
        go_roundw
        case rel => exact ⟨_, cnt1, HG1, Lib.hid (seen_step hse.out (.inl rfl)), HB1⟩
        case measure => rw [HG1.out.left_eq, hr.out.left_eq]; exact HLT.out
      · have hne : ((y' : Int) != (o : Int)) = true := by simp; omega
        by_cases ht : tog m (f y') = true
        · have HTT := Lib.hid ht
          clear ht e
          go_wp2_with (go_at_call 20; refine (HT.out _ _ _).mono ?_; rintro e w' ⟨rfl, hb⟩; have HB := Lib.hid hb; clear hb; rw [HTT.out])
          have HG2 := Lib.hid (HG1.out.kept (row := none) ⟨HB.out.os, HB.out.tape, HB.out.output, HB.out.size, fun b hb _ => HB.out.block b hb⟩ (by simp) (by simp))
          go_roundw
          case rel => exact ⟨_, cnt1, HG2, Lib.hid (seen_step hse.out (.inr HTT.out)), Lib.hid (HB1.out.trans (HB.out.mono HB1.out.size))⟩
          case measure => rw [HG2.out.left_eq, hr.out.left_eq]; exact HLT.out
        · have HTT : Hid (tog m (f y') = false) := Lib.hid (by simpa using ht)
          have HNE := Lib.hid e
          clear ht e
          go_wp2_with (go_at_call 20; refine (HT.out _ _ _).mono ?_; rintro e w' ⟨rfl, hb⟩; have HB := Lib.hid hb; clear hb; rw [HTT.out])
          rw [← HR.out]
          exact ⟨false, rfl, ⟨fun e => (by cases e), fun hL => by have := hL y' HNE.out HF0.out; rw [HTT.out] at this; cases this⟩, HB1.out.trans (HB.out.mono HB1.out.size)⟩
/-- A table without locks. -/
def S0 : St := ⟨fun _ _ => 0, fun _ => [], fun _ _ => 0, fun _ => (⟨#[]⟩, 0)⟩
def NewTab (w : World) (e : Ending) (w' : World) : Prop := ∃ g x, e = .returned (.pointer (some ⟨g, 0, none⟩)) ∧ Tab w' g S0 x 0 ∧ Below w.heap.size w w' ∧ ∀ b, x.who b ≠ .out → w.heap.size ≤ b
theorem made_tab (w : World) : NewTab w (.returned (.pointer (some ⟨w.heap.size + 2, 0, none⟩))) (((w.alloc (.map #[] 0)).alloc (.map #[] 0)).alloc (.cells #[.map (some w.heap.size), .map (some (w.heap.size + 1))] 60)) := by
  have m1 := mapAt_made (K := 9) (R := asIs) (key := kS) (ok := (·.size ≤ maxLen)) w
  have m2 := mapAt_made (K := 27) (R := asIs) (key := kU) (ok := (· < top)) (w.alloc (.map #[] 0))
  rw [size_alloc] at m2
  obtain ⟨a1, a2, a3, a4⟩ := heap_alloc2 w (.map #[] 0) (.map #[] 0)
  have hb : Below w.heap.size w (((w.alloc (.map #[] 0)).alloc (.map #[] 0)).alloc (.cells #[.map (some w.heap.size), .map (some (w.heap.size + 1))] 60)) := (((Below.refl _ _).alloc (Nat.le_refl _) _).alloc (by simp) _).alloc (by simp; omega) _
  have e1 : ((w.alloc (.map #[] 0)).alloc (.map #[] 0)).heap[w.heap.size]? = (w.alloc (.map #[] 0)).heap[w.heap.size]? := heap_alloc_old _ _ (by simp)
  have m1' := m1.kept e1
  generalize (w.alloc (.map #[] 0)).alloc (.map #[] 0) = w2 at m1' m2 a1 a2 a3 a4 hb ⊢
  have hc := cells_new w2 60 #[.map (some w.heap.size), .map (some (w.heap.size + 1))]
  rw [a3] at hc
  have hold : ∀ b, b < w2.heap.size → (w2.alloc (.cells #[.map (some w.heap.size), .map (some (w.heap.size + 1))] 60)).heap[b]? = w2.heap[b]? := fun b hb => heap_alloc_old _ _ hb
  have hsz := size_alloc w2 (.cells #[.map (some w.heap.size), .map (some (w.heap.size + 1))] 60)
  generalize w2.alloc (.cells #[.map (some w.heap.size), .map (some (w.heap.size + 1))] 60) = w3 at hc hb hold hsz ⊢
  have k1 := m1'.kept (hold w.heap.size (by omega))
  have k2 := m2.kept (hold (w.heap.size + 1) (by omega))
  refine ⟨w.heap.size + 2, ⟨w.heap.size, w.heap.size + 1, upd (upd (upd (fun _ => .out) w.heap.size .lm) (w.heap.size + 1) .om) (w.heap.size + 2) .tab, fun _ => none, fun _ => none⟩, rfl, ⟨hc, upd_same _ _ _, ?_, ?_, ?_⟩, hb, ?_⟩
  · exact ⟨k1.congr (fun _ _ => rfl), by show upd (upd (upd (fun _ => Tag.out) w.heap.size .lm) (w.heap.size + 1) .om) (w.heap.size + 2) .tab w.heap.size = _; rw [upd_other _ _ (by omega), upd_other _ _ (by omega), upd_same], fun _ _ => ⟨fun _ => rfl, rfl⟩, fun _ _ e => by cases e⟩
  · exact ⟨k2.congr (fun _ _ => rfl), by show upd (upd (upd (fun _ => Tag.out) w.heap.size .lm) (w.heap.size + 1) .om) (w.heap.size + 2) .tab (w.heap.size + 1) = _; rw [upd_other _ _ (by omega), upd_same], fun _ _ => ⟨fun _ => rfl, rfl⟩, fun _ _ e => by cases e⟩
  all_goals
    intro b hb'
    have hb2 : upd (upd (upd (fun _ => Tag.out) w.heap.size .lm) (w.heap.size + 1) .om) (w.heap.size + 2) .tab b ≠ .out := hb'
    by_cases e1 : b = w.heap.size + 2
    · omega
    · by_cases e2 : b = w.heap.size + 1
      · omega
      · by_cases e3 : b = w.heap.size
        · omega
        · rw [upd_other _ _ e1, upd_other _ _ e2, upd_other _ _ e3] at hb2
          exact absurd rfl hb2
theorem new_any (w : World) : Calls Try.prog 11 #[] w (NewTab w) := by
  have HQ := Lib.hid (made_tab w)
  generalize hR : NewTab w = R at HQ ⊢
  have hmm := @run_makeMap Try.prog
  clear hR
  go_enter Try.func11, Try.ntmps11
  go_wp2
  exact HQ.out
end Go.Proofs.Ythanjncpgcmnaaa

/- A device: what it holds, and how it lies in memory. -/
import Derived.Test.YtikcanbhdickgaaDskSlc
import Derived.Maps.Own
import Derived.Maps.OwnOps
import Derived.Maps.Views
namespace Go.Proofs.Ytikcanbhdickgaa
open Go.ChangeShapes Go.WideShapes Go.ChangeAt Go.RowKit

/-- What a device holds: its pages as they are certain, the writes since, the write at which it died, its log, and so on. -/
structure Dsk where
  pages : List (List Nat)
  wait : List (Nat × List Nat)
  torn : Option (Nat × List Nat)
  log : List Nat
  room : Nat
  kept : Nat
  half : List Nat
  mark : List Nat
  fuse : Option Nat
  ops : Nat
  dead : Bool
/-- Where it lies. -/
structure Gh where
  g : Nat
  mb : Nat
  cnt : Nat
  D : DataW Value
  sb : Option Nat
  wb : Option Nat
  lb : Option Nat
  hb : Option Nat
  kb : Option Nat
  sv : Value
  wv : Value
  lv : Value
  hv : Value
  kv : Value
  P : List (Option Nat × List Nat)
  wl : List (Nat × Nat × List Nat)
  T : Option (Nat × Nat × Nat × List Nat)
  left : Int
  I : Nat → Prop

/-- A page's bytes in a block of their own. -/
def Leaf (w : World) (b : Nat) (l : List Nat) : Prop := Cells w b 69 (u8c l) ∧ l.length = 512 ∧ ∀ c ∈ l, c < 256
def ptr (o : Option Nat) : Value := .pointer (o.map fun b => ⟨b, 0, none⟩)
/-- A pointer to a page's bytes; none: noughts. -/
def LeafO (w : World) (I : Nat → Prop) (o : Option Nat) (l : List Nat) : Prop := (o = none ∧ l = noughts) ∨ ∃ b, o = some b ∧ Leaf w b l ∧ I b
/-- The cells of writes. -/
def wcells (wl : List (Nat × Nat × List Nat)) : List Value := wl.flatMap fun x => [.int .i64 (x.1 : Int), ptr (some x.2.1)]
/-- The block of the last write of a page. -/
def lastB (wl : List (Nat × Nat × List Nat)) (m : Nat) : Option Nat := wl.foldl (fun o x => if x.1 = m then some x.2.1 else o) none
theorem lastB_snoc (wl : List (Nat × Nat × List Nat)) (x : Nat × Nat × List Nat) (m : Nat) : lastB (wl ++ [x]) m = if x.1 = m then some x.2.1 else lastB wl m := by
  rw [lastB, List.foldl_append]; rfl
/-- How an element of a map of pointers reads: as itself. -/
def asIs : Value → Option (DataW Value × List MemPlace)
  | .pointer o => some (.held (.pointer o), [])
  | _ => none
theorem keysInt : Go.Maps.Keyed Try.prog 3 := Go.Maps.int_keyed Try.underlying3
structure DSure (w : World) (I : Nat → Prop) (sb : Option Nat) (sv : Value) (P : List (Option Nat × List Nat)) (pages : List (List Nat)) : Prop where
  slc : Slc w sb 1 sv P.length (P.map fun p => ptr p.1)
  leaf : ∀ p ∈ P, LeafO w I p.1 p.2
  is : P.map (·.2) = pages
  few : P.length ≤ 65536
structure DLast (w : World) (mb cnt : Nat) (D : DataW Value) (np : Nat) (wl : List (Nat × Nat × List Nat)) : Prop where
  own : w.ownsMap Try.prog 3 asIs mb cnt D
  at' : ∀ n : Nat, D.atKey (.int .i64 (n : Int)) (.held (.pointer none)) = .held (ptr (lastB wl n))
  has : ∀ kl, Maps.has D kl = true → ∃ n : Nat, n < np ∧ kl = .int .i64 (n : Int) ∧ (lastB wl n).isSome = true
  few : cnt ≤ wl.length
structure DWait (w : World) (I : Nat → Prop) (wb : Option Nat) (wv : Value) (wl : List (Nat × Nat × List Nat)) (wait : List (Nat × List Nat)) (np : Nat) : Prop where
  slc : Slc w wb 2 wv wl.length (wcells wl)
  leaf : ∀ y ∈ wl, y.1 < np ∧ Leaf w y.2.1 y.2.2 ∧ I y.2.1
  is : wl.map (fun y => (y.1, y.2.2)) = wait
def tornV (T : Option (Nat × Nat × Nat × List Nat)) : Value := .pointer (T.map fun t => ⟨t.1, 0, none⟩)
structure DTorn (w : World) (I : Nat → Prop) (T : Option (Nat × Nat × Nat × List Nat)) (torn : Option (Nat × List Nat)) (np : Nat) : Prop where
  at' : ∀ t, T = some t → Cells w t.1 72 #[.int .i64 (t.2.1 : Int), ptr (some t.2.2.1)] ∧ I t.1 ∧ Leaf w t.2.2.1 t.2.2.2 ∧ I t.2.2.1 ∧ t.2.1 < np
  is : T.map (fun t => (t.2.1, t.2.2.2)) = torn
/-- Bytes that are kept. -/
structure DByte (w : World) (bo : Option Nat) (v : Value) (l : List Nat) : Prop where
  slc : Slc w bo 1 v l.length (u8s l)
  byte : ∀ c ∈ l, c < 256
structure Dev (w : World) (S : Dsk) (x : Gh) : Prop where
  cells : Cells w x.g 68 #[x.sv, .map (some x.mb), x.wv, tornV x.T, x.lv, .int .i64 (S.room : Int), .int .i64 (S.kept : Int), x.hv, x.kv, .bool S.fuse.isSome, .int .i64 x.left, .int .i64 (S.ops : Int), .bool S.dead]
  sure : DSure w x.I x.sb x.sv x.P S.pages
  last : DLast w x.mb x.cnt x.D x.P.length x.wl
  wait : DWait w x.I x.wb x.wv x.wl S.wait x.P.length
  torn : DTorn w x.I x.T S.torn x.P.length
  log : DByte w x.lb x.lv S.log
  half : DByte w x.hb x.hv S.half
  mark : DByte w x.kb x.kv S.mark
  keptI : (∀ b, x.hb = some b → x.I b) ∧ (∀ b, x.kb = some b → x.I b)
  num : S.log.length ≤ S.room ∧ S.room ≤ 16777216 ∧ S.kept ≤ S.log.length ∧ S.half.length + S.log.length ≤ S.room ∧ S.mark.length ≤ 64 ∧ S.wait.length ≤ S.ops
  left : (-9223372036854775808 ≤ x.left ∧ x.left ≤ 9223372036854775807) ∧ ∀ n, S.fuse = some n → x.left = n
  apart : x.g ≠ x.mb ∧ x.sb ≠ some x.g ∧ x.sb ≠ some x.mb ∧ x.wb ≠ some x.g ∧ x.wb ≠ some x.mb ∧ x.lb ≠ some x.g ∧ x.lb ≠ some x.mb ∧ (x.sb = none ∨ x.sb ≠ x.wb) ∧ (x.sb = none ∨ x.sb ≠ x.lb) ∧ (x.wb = none ∨ x.wb ≠ x.lb)
  out : ∀ k, x.I k → k ≠ x.g ∧ k ≠ x.mb ∧ x.sb ≠ some k ∧ x.wb ≠ some k ∧ x.lb ≠ some k ∧ k < w.heap.size
/-- The blocks that a device may turn. -/
def Ex (x : Gh) (k : Nat) : Prop := k = x.g ∨ k = x.mb ∨ x.sb = some k ∨ x.wb = some k ∨ x.lb = some k

section
variable {w w' : World} {I : Nat → Prop}
theorem leaf_kept {b : Nat} {l : List Nat} (h : Leaf w b l) (hk : w'.heap[b]? = w.heap[b]?) : Leaf w' b l := ⟨by unfold Cells; rw [hk]; exact h.1, h.2⟩
theorem leafO_kept {o : Option Nat} {l : List Nat} (h : LeafO w I o l) (hk : ∀ k, I k → w'.heap[k]? = w.heap[k]?) : LeafO w' I o l := by
  rcases h with h | ⟨b, h1, h2, h3⟩
  · exact .inl h
  · exact .inr ⟨b, h1, leaf_kept h2 (hk b h3), h3⟩
theorem dsure_kept {sb : Option Nat} {sv : Value} {P : List (Option Nat × List Nat)} {pages : List (List Nat)} (h : DSure w I sb sv P pages) (hs : w.heap.size ≤ w'.heap.size) (hb : ∀ b, sb = some b → w'.heap[b]? = w.heap[b]?) (hk : ∀ k, I k → w'.heap[k]? = w.heap[k]?) : DSure w' I sb sv P pages :=
  ⟨slc_kept h.slc hs hb, fun p hp => leafO_kept (h.leaf p hp) hk, h.is, h.few⟩
theorem dlast_kept {mb cnt np : Nat} {D : DataW Value} {wl : List (Nat × Nat × List Nat)} (h : DLast w mb cnt D np wl) (hk : w'.heap[mb]? = w.heap[mb]?) : DLast w' mb cnt D np wl := by
  obtain ⟨⟨es, clock, hb, hf⟩, h2, h3, h4⟩ := h
  exact ⟨⟨es, clock, hk.trans hb, hf⟩, h2, h3, h4⟩
theorem dwait_kept {wb : Option Nat} {wv : Value} {wl : List (Nat × Nat × List Nat)} {wait : List (Nat × List Nat)} {np : Nat} (h : DWait w I wb wv wl wait np) (hs : w.heap.size ≤ w'.heap.size) (hb : ∀ b, wb = some b → w'.heap[b]? = w.heap[b]?) (hk : ∀ k, I k → w'.heap[k]? = w.heap[k]?) : DWait w' I wb wv wl wait np :=
  ⟨slc_kept h.slc hs hb, fun y hy => by obtain ⟨h1, h2, h3⟩ := h.leaf y hy; exact ⟨h1, leaf_kept h2 (hk _ h3), h3⟩, h.is⟩
theorem dtorn_kept {T : Option (Nat × Nat × Nat × List Nat)} {torn : Option (Nat × List Nat)} {np : Nat} (h : DTorn w I T torn np) (hk : ∀ k, I k → w'.heap[k]? = w.heap[k]?) : DTorn w' I T torn np :=
  ⟨fun t ht => by
    obtain ⟨h1, h2, h3, h4, h5⟩ := h.at' t ht
    exact ⟨by unfold Cells; rw [hk _ h2]; exact h1, h2, leaf_kept h3 (hk _ h4), h4, h5⟩, h.is⟩
theorem dbyte_kept {bo : Option Nat} {v : Value} {l : List Nat} (h : DByte w bo v l) (hs : w.heap.size ≤ w'.heap.size) (hb : ∀ b, bo = some b → w'.heap[b]? = w.heap[b]?) : DByte w' bo v l := ⟨slc_kept h.slc hs hb, h.byte⟩
end
theorem dev_size {w : World} {S : Dsk} {x : Gh} (h : Dev w S x) : ∀ k, Ex x k → k < w.heap.size := by
  intro k hk
  rcases hk with rfl | rfl | hk | hk | hk
  · exact (Array.getElem?_eq_some_iff.1 h.cells).1
  · exact h.last.own.lt
  · exact slc_lt h.sure.slc k hk
  · exact slc_lt h.wait.slc k hk
  · exact slc_lt h.log.slc k hk
theorem dev_out {w : World} {S : Dsk} {x : Gh} (h : Dev w S x) {k : Nat} (hI : x.I k) : ¬ Ex x k := by
  obtain ⟨h1, h2, h3, h4, h5, _⟩ := h.out k hI
  rintro (e | e | e | e | e)
  · exact h1 e
  · exact h2 e
  · exact h3 e
  · exact h4 e
  · exact h5 e
theorem dev_kept {w w' : World} {S : Dsk} {x : Gh} (h : Dev w S x) (hs : w.heap.size ≤ w'.heap.size) (hk : ∀ k, Ex x k ∨ x.I k → w'.heap[k]? = w.heap[k]?) : Dev w' S x where
  cells := by unfold Cells; rw [hk _ (.inl (.inl rfl))]; exact h.cells
  sure := dsure_kept h.sure hs (fun b e => hk b (.inl (.inr (.inr (.inl e))))) (fun k hI => hk k (.inr hI))
  last := dlast_kept h.last (hk _ (.inl (.inr (.inl rfl))))
  wait := dwait_kept h.wait hs (fun b e => hk b (.inl (.inr (.inr (.inr (.inl e)))))) (fun k hI => hk k (.inr hI))
  torn := dtorn_kept h.torn (fun k hI => hk k (.inr hI))
  log := dbyte_kept h.log hs (fun b e => hk b (.inl (.inr (.inr (.inr (.inr e))))))
  half := dbyte_kept h.half hs (fun b e => hk b (.inr (h.keptI.1 b e)))
  mark := dbyte_kept h.mark hs (fun b e => hk b (.inr (h.keptI.2 b e)))
  keptI := h.keptI
  num := h.num
  left := h.left
  apart := h.apart
  out := fun k hI => by obtain ⟨h1, h2, h3, h4, h5, h6⟩ := h.out k hI; exact ⟨h1, h2, h3, h4, h5, by omega⟩
theorem dev_below {w w' : World} {S : Dsk} {x : Gh} (h : Dev w S x) (hb : Below w.heap.size w w') : Dev w' S x :=
  dev_kept h hb.size (fun k hk => hb.block k (by
    rcases hk with e | e
    · exact dev_size h k e
    · exact (h.out k e).2.2.2.2.2))
/-- What is done to other blocks leaves a device as it is. -/
theorem dev_turned {w w' : World} {S : Dsk} {x : Gh} {E : Nat → Prop} (h : Dev w S x) (ht : Turned E w w') (hE : ∀ k, Ex x k ∨ x.I k → ¬ E k) : Dev w' S x :=
  dev_kept h ht.size (fun k hk => ht.block k (by
    rcases hk with e | e
    · exact dev_size h k e
    · exact (h.out k e).2.2.2.2.2) (hE k hk))
/-- A device behind an operation. -/
def Did (w : World) (x : Gh) (S' : Dsk) (r : Value) (e : Ending) (w' : World) : Prop := ∃ x', e = .returned r ∧ Dev w' S' x' ∧ x'.g = x.g ∧ Turned (Ex x) w w' ∧ Grows w (Ex x) (Ex x') ∧ Grows w x.I x'.I
end Go.Proofs.Ytikcanbhdickgaa

/- A slice of one's own that may be appended to, wherever it stands in its block; what an operation turns: plain words and laws. -/
import Derived.Test.YthanjncpgcmnaaaDskBase
import Derived.Deep.AppendSrc
import Derived.Deep.Upon
namespace Go.Proofs.Ythanjncpgcmnaaa
open Go.ChangeShapes Go.WideShapes Go.ChangeAt Go.RowKit

/-- The blocks of E alone, and new ones, were turned. -/
structure Turned (E : Nat → Prop) (w w' : World) : Prop where
  os : w'.os = w.os
  tape : w'.tape = w.tape
  output : w'.output = w.output
  size : w.heap.size ≤ w'.heap.size
  block : ∀ k, k < w.heap.size → ¬ E k → w'.heap[k]? = w.heap[k]?
/-- What is new, or was there. -/
def Grows (w : World) (E E' : Nat → Prop) : Prop := ∀ k, E' k → E k ∨ w.heap.size ≤ k
theorem Turned.refl (E : Nat → Prop) (w : World) : Turned E w w := ⟨rfl, rfl, rfl, Nat.le_refl _, fun _ _ _ => rfl⟩
theorem Turned.trans {E E' : Nat → Prop} {a b c : World} (h : Turned E a b) (k : Turned E' b c) (hg : Grows a E E') : Turned E a c :=
  ⟨k.os.trans h.os, k.tape.trans h.tape, k.output.trans h.output, Nat.le_trans h.size k.size, fun i hi hn =>
    (k.block i (Nat.lt_of_lt_of_le hi h.size) (fun he => by rcases hg i he with h1 | h1; exact hn h1; omega)).trans (h.block i hi hn)⟩
theorem Turned.mono {E E' : Nat → Prop} {a b : World} (h : Turned E a b) (hs : ∀ k, E k → E' k) : Turned E' a b := ⟨h.os, h.tape, h.output, h.size, fun k hk hn => h.block k hk (fun he => hn (hs k he))⟩
theorem Turned.drew {E : Nat → Prop} {a b : World} (h : Turned E a b) : Turned E a b.drew := ⟨h.os, h.tape, h.output, h.size, h.block⟩
theorem Turned.drewN {E : Nat → Prop} {a b : World} (h : Turned E a b) (n : Nat) : Turned E a (b.drewN n) := ⟨h.os, h.tape, h.output, h.size, h.block⟩
theorem Turned.below {E : Nat → Prop} {a b c : World} (h : Turned E a b) (hb : Below b.heap.size b c) : Turned E a c :=
  ⟨hb.os.trans h.os, hb.tape.trans h.tape, hb.output.trans h.output, Nat.le_trans h.size hb.size, fun k hk hn => (hb.block k (Nat.lt_of_lt_of_le hk h.size)).trans (h.block k hk hn)⟩
theorem Turned.of_below {E : Nat → Prop} {a b : World} (hb : Below a.heap.size a b) : Turned E a b := (Turned.refl E a).below hb
theorem Turned.alloc {E : Nat → Prop} {a b : World} (h : Turned E a b) (o : Obj) : Turned E a (b.alloc o) := h.below (below_alloc b o)
theorem Turned.setCell {E : Nat → Prop} {a b : World} (h : Turned E a b) {p : Addr} (hp : E p.block ∨ a.heap.size ≤ p.block) (v : Value) : Turned E a (b.setCell p v) :=
  ⟨h.os, h.tape, h.output, by simpa [World.setCell] using h.size, fun k hk hn => by
    rw [Below.heap_setCell _ _ _ _ (fun e => by subst e; rcases hp with h1 | h1; exact hn h1; omega)]
    exact h.block k hk hn⟩
theorem Turned.to_below {E : Nat → Prop} {B : Nat} {a b c : World} (h : Below B a b) (k : Turned E b c) (hE : ∀ k, E k → B ≤ k) (hB : B ≤ b.heap.size) : Below B a c :=
  h.trans ⟨k.os, k.tape, k.output, k.size, fun i hi => k.block i (by omega) (fun he => by have := hE i he; omega)⟩
theorem Turned.none_below {a b : World} (k : Turned (fun _ => False) a b) : Below a.heap.size a b := ⟨k.os, k.tape, k.output, k.size, fun i hi => k.block i hi (fun h => h)⟩
theorem Grows.refl (w : World) (E : Nat → Prop) : Grows w E E := fun _ h => .inl h
theorem Grows.trans {a b : World} {E E' E'' : Nat → Prop} (h : Grows a E E') (k : Grows b E' E'') (hs : a.heap.size ≤ b.heap.size) : Grows a E E'' := fun i hi => by
  rcases k i hi with h1 | h1
  · exact h i h1
  · exact .inr (by omega)
theorem setCells_turned (b : Nat) : ∀ (vs : List Value) (o : Nat) (w : World), Turned (fun k => k = b) w (w.setCells b o vs)
  | [], _, w => Turned.refl _ _
  | v :: r, o, w => by
    rw [World.setCells]
    exact ((Turned.refl (fun k => k = b) w).setCell (p := ⟨b, o, none⟩) (.inl rfl) v).trans (setCells_turned b r (o + 1) _) (Grows.refl _ _)

/-- A slice that reads as these cells, in a block that is known; its spare cells are there. -/
def Slc (w : World) (bo : Option Nat) (sz : Nat) (v : Value) (n : Nat) (xs : List Value) : Prop :=
  xs.length = n * sz ∧ (∀ u ∈ xs, u.oneCell' = true) ∧ ((bo = none ∧ v = .slice none 0 0 ∧ n = 0) ∨ ∃ b off cap, bo = some b ∧ v = .slice (some ⟨b, off, none⟩) n cap ∧ b < w.heap.size ∧ n ≤ cap ∧ cap ≤ maxLen ∧
    (∀ j u, xs[j]? = some u → w.cell? ⟨b, off + j, none⟩ = some u) ∧ (∀ j, j < cap * sz → (w.cell? ⟨b, off + j, none⟩).isSome = true ∧ w.frozen? ⟨b, off + j, none⟩ = false))
theorem slc_nil (w : World) (sz : Nat) : Slc w none sz (.slice none 0 0) 0 [] := ⟨by simp, (fun u hu => by cases hu), .inl ⟨rfl, rfl, rfl⟩⟩
theorem slc_kept {w w' : World} {bo : Option Nat} {sz n : Nat} {v : Value} {xs : List Value} (h : Slc w bo sz v n xs) (hs : w.heap.size ≤ w'.heap.size) (hk : ∀ b, bo = some b → w'.heap[b]? = w.heap[b]?) : Slc w' bo sz v n xs := by
  obtain ⟨h1, h2, h3 | ⟨b, off, cap, rfl, rfl, hb, hn, hc, hx, hsp⟩⟩ := h
  · exact ⟨h1, h2, .inl h3⟩
  · have hbk := hk b rfl
    refine ⟨h1, h2, .inr ⟨b, off, cap, rfl, rfl, by omega, hn, hc, fun j u hu => ?_, fun j hj => ?_⟩⟩
    · rw [World.cell?_of_block (a := ⟨b, off + j, none⟩) hbk]; exact hx j u hu
    · rw [World.cell?_of_block (a := ⟨b, off + j, none⟩) hbk, World.frozen?_of_block (a := ⟨b, off + j, none⟩) hbk]; exact hsp j hj
theorem slc_lt {w : World} {bo : Option Nat} {sz n : Nat} {v : Value} {xs : List Value} (h : Slc w bo sz v n xs) : ∀ b, bo = some b → b < w.heap.size := by
  obtain ⟨_, _, ⟨rfl, _⟩ | ⟨b, off, cap, rfl, rfl, hb, _⟩⟩ := h
  · intro b e; cases e
  · intro b' e; cases e; exact hb
theorem slc_below {w w' : World} {bo : Option Nat} {sz n : Nat} {v : Value} {xs : List Value} (h : Slc w bo sz v n xs) (hb : Below w.heap.size w w') : Slc w' bo sz v n xs :=
  slc_kept h hb.size (fun b e => hb.block b (slc_lt h b e))
theorem slc_turned {w w' : World} {E : Nat → Prop} {bo : Option Nat} {sz n : Nat} {v : Value} {xs : List Value} (h : Slc w bo sz v n xs) (ht : Turned E w w') (hE : ∀ b, bo = some b → ¬ E b) : Slc w' bo sz v n xs :=
  slc_kept h ht.size (fun b e => ht.block b (slc_lt h b e) (hE b e))
theorem slc_form {w : World} {bo : Option Nat} {sz n : Nat} {v : Value} {xs : List Value} (h : Slc w bo sz v n xs) : ∃ ao cap, v = .slice ao n cap ∧ n ≤ cap ∧ cap ≤ maxLen ∧ (ao = none → cap = 0) ∧ (0 < n → ∃ b off, bo = some b ∧ ao = some ⟨b, off, none⟩) := by
  obtain ⟨_, _, ⟨rfl, rfl, rfl⟩ | ⟨b, off, cap, rfl, rfl, _, hn, hc, _⟩⟩ := h
  · exact ⟨none, 0, rfl, Nat.le_refl _, Nat.zero_le _, fun _ => rfl, fun h => absurd h (Nat.lt_irrefl 0)⟩
  · exact ⟨_, cap, rfl, hn, hc, (fun h => by cases h), fun _ => ⟨b, off, rfl, rfl⟩⟩
/-- What a slice yields as the source of an append. -/
theorem slc_src {P : Program} {w : World} {bo : Option Nat} {sz n : Nat} {v : Value} {xs : List Value} {tx e' : TypeId} (hk : P.underlying tx = some (.slice e')) (h : Slc w bo sz v n xs) : _root_.Go.Src P sz tx v n xs w := by
  obtain ⟨h1, h2, ⟨rfl, rfl, rfl⟩ | ⟨b, off, cap, rfl, rfl, hb, hn, hc, hx, hsp⟩⟩ := h
  · obtain rfl : xs = [] := List.length_eq_zero_iff.1 (by simpa using h1)
    exact _root_.Go.Src.ofNil w hk 0
  · exact _root_.Go.Src.ofSlice w hk ⟨b, off, none⟩ n cap xs h1 (fun j u hu => by
      have e : (⟨b, off, none⟩ : Addr).add j = ⟨b, off + j, none⟩ := by unfold Addr.add; split <;> simp_all
      rw [e]; exact hx j u hu) h2
/-- append, whatever is appended to, and whatever is appended. -/
theorem slc_append {P : Program} {w : World} {t tx ty e : TypeId} {i : TypeInfo} {z : Value} {sz by' : Nat} (ht : P.underlying t = some (.slice e)) (hi : P.info? e = some i) (hz : i.zero = some z) (hsz : i.size = sz) (hby : i.bytes = by') (hzs : z.cells.size = sz)
    {bo : Option Nat} {n m : Nat} {v x : Value} {xs ys : List Value} (h : Slc w bo sz v n xs) (hs : _root_.Go.Src P sz tx x m ys w) (h63 : n + m ≤ maxLen) (hb : (n + m) * by' ≤ 140737488355328) :
    ∃ v' bo' w', (Builtin.append_ #[t, tx] ty #[v, x]).run P w = .ok v' w' ∧ Slc w' bo' sz v' (n + m) (xs ++ ys) ∧ Turned (fun k => bo = some k) w w' ∧ (bo' = bo ∨ bo' = some w.heap.size) := by
  subst hsz
  subst hby
  have hl2 : (xs ++ ys).length = (n + m) * i.size := by rw [List.length_append, h.1, hs.newsLen, Nat.add_mul]
  have hone : ∀ u ∈ xs ++ ys, u.oneCell' = true := fun u hu => by
    rcases List.mem_append.1 hu with h' | h'
    · exact h.2.1 u h'
    · exact hs.one u h'
  have hsmall : n + m ≤ 9223372036854775807 := by simp only [maxLen] at h63; omega
  -- a new row
  have grown : ∀ (base : Option Addr) (cap : Nat), v = .slice base n cap → cap < n + m → (∀ w' : World, w'.heap = w.heap → (Builtin.firstCells i.size n (.slice base n cap)).run P w' = .ok xs.toArray w') →
      ∃ v' bo' w', (Builtin.append_ #[t, tx] ty #[v, x]).run P w = .ok v' w' ∧ Slc w' bo' i.size v' (n + m) (xs ++ ys) ∧ Turned (fun k => bo = some k) w w' ∧ (bo' = bo ∨ bo' = some w.heap.size) := by
    intro base cap hv hlt hold
    have hr := run_append_grow_src (P := P) w t tx ty e i z ht hi hz base n cap xs (hold w.drew rfl) x m ys hs hlt (by omega) (growslice_fits hlt hb)
    have hge := grownCap_ge w (n + m) cap e
    have hcm : grownCap w (n + m) cap e ≤ maxLen := grownCap_le_maxLen w (n + m) cap e h63
    obtain ⟨c, hc⟩ : ∃ c, c = grownCap w (n + m) cap e := ⟨_, rfl⟩
    rw [← hc] at hr hge hcm
    rw [hv]
    refine ⟨_, some w.heap.size, _, hr, ⟨hl2, hone, .inr ⟨w.heap.size, 0, c, rfl, rfl, by simp, hge, hcm, fun j u hu => ?_, fun j hj => ?_⟩⟩, (Turned.refl _ w).drew.alloc _, .inr rfl⟩
    · have hrow : (w.drew.alloc (.cells ((xs ++ ys).toArray ++ Builtin.zeroCells z.cells (c - (n + m))) e)).heap[w.heap.size]? = some (.cells ((xs ++ ys).toArray ++ Builtin.zeroCells z.cells (c - (n + m))) e (0, 0)) := heap_alloc_new w.drew _
      rw [cell_of_row _ _ _ _ _ _ hrow, Nat.zero_add]
      have hj := (List.getElem?_eq_some_iff.1 hu).1
      rw [Array.getElem?_append_left (by simpa using hj)]
      simpa using hu
    · have hrow : (w.drew.alloc (.cells ((xs ++ ys).toArray ++ Builtin.zeroCells z.cells (c - (n + m))) e)).heap[w.heap.size]? = some (.cells ((xs ++ ys).toArray ++ Builtin.zeroCells z.cells (c - (n + m))) e (0, 0)) := heap_alloc_new w.drew _
      refine ⟨?_, frozen_of_row _ _ _ _ _ hrow⟩
      rw [cell_of_row _ _ _ _ _ _ hrow, Nat.zero_add]
      have hsize : j < ((xs ++ ys).toArray ++ Builtin.zeroCells z.cells (c - (n + m))).size := by
        rw [Array.size_append, List.size_toArray, hl2, size_zeroCells, hzs, ← Nat.add_mul, show n + m + (c - (n + m)) = c from by omega]
        exact hj
      rw [Array.getElem?_eq_getElem hsize]
      rfl
  obtain ⟨h1, h2, ⟨rfl, rfl, rfl⟩ | ⟨b, off, cap, rfl, rfl, hbl, hn, hc, hx, hsp⟩⟩ := h
  · obtain rfl : xs = [] := List.length_eq_zero_iff.1 (by simpa using h1)
    by_cases hm : m = 0
    · subst hm
      obtain rfl : ys = [] := List.length_eq_zero_iff.1 (by have := hs.newsLen; simpa using this)
      exact ⟨_, none, w, run_append_nothing w t tx ty e i ht hi none 0 0 (Nat.le_refl _) x hs, slc_nil w _, Turned.refl _ _, .inl rfl⟩
    · exact grown none 0 rfl (by omega) (fun w' _ => by rw [run_firstCells_none])
  · have hadd : ∀ j, (⟨b, off, none⟩ : Addr).add j = ⟨b, off + j, none⟩ := fun j => by unfold Addr.add; split <;> simp_all
    by_cases hroom : n + m ≤ cap
    · have hle : n * i.size + ys.length ≤ cap * i.size := by rw [hs.newsLen, ← Nat.add_mul]; exact Nat.mul_le_mul_right _ hroom
      have hsp' : ∀ j, j < ys.length → (w.cell? ⟨b, off + n * i.size + j, none⟩).isSome = true ∧ w.frozen? ⟨b, off + n * i.size + j, none⟩ = false := fun j hj => by
        have := hsp (n * i.size + j) (by omega)
        rwa [← Nat.add_assoc] at this
      have hr := run_append_room_src (P := P) w t tx ty e i ht hi b off n cap x m ys hs hroom (fun j hj => (hsp' j hj).1) (fun j hj => (hsp' j hj).2)
      refine ⟨_, some b, _, hr, ⟨hl2, hone, .inr ⟨b, off, cap, rfl, rfl, ?_, hroom, hc, fun j u hu => ?_, fun j hj => ?_⟩⟩, (setCells_turned b ys (off + n * i.size) w).mono (fun k e => by rw [e]), .inl rfl⟩
      · exact Nat.lt_of_lt_of_le hbl (setCells_turned b ys (off + n * i.size) w).size
      · by_cases hj : j < xs.length
        · rw [World.cell?_setCells_out b ys _ w _ (fun _ _ => .inl (by show off + j < off + n * i.size; omega))]
          rw [List.getElem?_append_left hj] at hu
          exact hx j u hu
        · rw [List.getElem?_append_right (by omega)] at hu
          have hj' := (List.getElem?_eq_some_iff.1 hu).1
          have := World.cell?_setCells_in b ys (off + n * i.size) w (fun k hk => (hsp' k hk).1) (j - xs.length) hj'
          rw [show off + n * i.size + (j - xs.length) = off + j from by omega] at this
          rw [this]
          exact (List.getElem?_eq_getElem hj').symm.trans hu
      · rw [World.frozen?_setCells]
        refine ⟨?_, (hsp j hj).2⟩
        by_cases hin : n * i.size ≤ j ∧ j < n * i.size + ys.length
        · have := World.cell?_setCells_in b ys (off + n * i.size) w (fun k hk => (hsp' k hk).1) (j - n * i.size) (by omega)
          rw [show off + n * i.size + (j - n * i.size) = off + j from by omega] at this
          rw [this]; rfl
        · rw [World.cell?_setCells_out b ys _ w _ (fun _ _ => by show off + j < off + n * i.size ∨ off + n * i.size + ys.length ≤ off + j; omega)]
          exact (hsp j hj).1
    · exact grown (some ⟨b, off, none⟩) cap rfl (by omega) (fun w' hw' => run_firstCells_some w' i.size n _ n cap xs h1 (fun j u hu => by
        rw [hadd, World.cell?_of_block (a := ⟨b, off + j, none⟩) (show w'.heap[b]? = w.heap[b]? by rw [hw'])]
        exact hx j u hu))
/-- A slice type and its elements, as the table has them. -/
structure Rowy (P : Program) (t e : TypeId) (i : TypeInfo) (z : Value) (sz by' : Nat) : Prop where
  ht : P.underlying t = some (.slice e)
  hi : P.info? e = some i
  hz : i.zero = some z
  hsz : i.size = sz
  hby : i.bytes = by'
  hzs : z.cells.size = sz
section
variable {P : Program} {t e : TypeId} {i : TypeInfo} {z : Value} {sz by' : Nat} (R : Rowy P t e i z sz by')
include R
theorem wp_slc {w : World} {o : Oper} {a : Act} {K : Act → World → Prop} {Q : Exit → Act → World → Prop} (s x : Operand) (tx : TypeId) (ho : o.op = .call { callee := .builtin .append, args := #[s, x], argTypes := #[t, tx] })
    {bo : Option Nat} {v y : Value} {n m r : Nat} {xs ys : List Value} (hs : a.eval s = v) (hx : a.eval x = y) (h : Slc w bo sz v n xs) (hsrc : _root_.Go.Src P sz tx y m ys w) (hr : n + m = r) (h63 : r ≤ maxLen) (hb : r * by' ≤ 140737488355328)
    (hK : ∀ ao cap bo' w', Slc w' bo' sz (.slice ao r cap) r (xs ++ ys) → Turned (fun k => bo = some k) w w' → (bo' = bo ∨ bo' = some w.heap.size) → K (a.put o.dst (.slice ao r cap)) w') : o.wp P a w K Q := by
  subst hr
  obtain ⟨v', bo', w', hrun, h1, h2, h3⟩ := slc_append (ty := o.type) R.ht R.hi R.hz R.hsz R.hby R.hzs h hsrc h63 hb
  obtain ⟨ao, cap, rfl, _⟩ := slc_form h1
  unfold Oper.wp execOp
  simp only [ho, resolve, invoke, builtin, Sem.run_bind, Sem.run_pure, Result.andThen_ok, List.map_toArray, List.map_cons, List.map_nil, hs, hx, hrun]
  exact hK ao cap bo' w' h1 h2 h3
theorem wpList_slc {w : World} {ops : Array Oper} {rest : List Oper} {o : Oper} {a : Act} {Q : Exit → Act → World → Prop} (hgd : o.guard = none) (s x : Operand) (tx : TypeId) (ho : o.op = .call { callee := .builtin .append, args := #[s, x], argTypes := #[t, tx] })
    {bo : Option Nat} {v y : Value} {n m r : Nat} {xs ys : List Value} (hs : a.eval s = v) (hx : a.eval x = y) (h : Slc w bo sz v n xs) (hsrc : _root_.Go.Src P sz tx y m ys w) (hr : n + m = r) (h63 : r ≤ maxLen) (hb : r * by' ≤ 140737488355328)
    (hK : ∀ ao cap bo' w', Slc w' bo' sz (.slice ao r cap) r (xs ++ ys) → Turned (fun k => bo = some k) w w' → (bo' = bo ∨ bo' = some w.heap.size) → wpList P ops Q rest (a.put o.dst (.slice ao r cap)) w') : wpList P ops Q (o :: rest) a w :=
  wpList_plain hgd fun _ hK' => wp_slc R s x tx ho hs hx h hsrc hr h63 hb fun ao cap bo' w' h1 h2 h3 => hK' _ _ (hK ao cap bo' w' h1 h2 h3)
theorem step_slc {w : World} {ops : Array Oper} {o : Oper} {a : Act} {K : Act → World → Prop} {Q : Exit → Act → World → Prop} {E : Prop} (hgd : o.guard = none) (s x : Operand) (tx : TypeId) (ho : o.op = .call { callee := .builtin .append, args := #[s, x], argTypes := #[t, tx] })
    {bo : Option Nat} {v y : Value} {n m r : Nat} {xs ys : List Value} (hs : a.eval s = v) (hx : a.eval x = y) (h : Slc w bo sz v n xs) (hsrc : _root_.Go.Src P sz tx y m ys w) (hr : n + m = r) (h63 : r ≤ maxLen) (hb : r * by' ≤ 140737488355328)
    (hK : ∀ ao cap bo' w', Slc w' bo' sz (.slice ao r cap) r (xs ++ ys) → Turned (fun k => bo = some k) w w' → (bo' = bo ∨ bo' = some w.heap.size) → K (a.put o.dst (.slice ao r cap)) w') :
    if Region.wanted o (yielded ops a.tmps) = true then Oper.wp P o a w K Q else E := by
  have hw : Region.wanted o (yielded ops a.tmps) = true := by simp [Region.wanted, hgd]
  rw [if_pos hw]
  exact wp_slc R s x tx ho hs hx h hsrc hr h63 hb hK
end
/-- A fresh slice without elements. -/
theorem slc_fresh (w : World) (t : TypeId) (sz : Nat) : Slc (w.alloc (.cells #[] t)) (some w.heap.size) sz (.slice (some ⟨w.heap.size, 0, none⟩) 0 0) 0 [] :=
  ⟨by simp, (fun u hu => by cases hu), .inr ⟨_, 0, 0, rfl, rfl, by simp, Nat.le_refl _, Nat.zero_le _, (fun j u hu => by simp at hu), fun j hj => by omega⟩⟩
/-- What bytes yield that came in, or whatever slice of bytes reads so. -/
theorem bytes_src {P : Program} {w : World} {tx e' : TypeId} (hk : P.underlying tx = some (.slice e')) {a : Option Addr} {l : List Nat} {n cap : Nat} (h : BytesAt w a l) (hl : l.length = n) : _root_.Go.Src P 1 tx (.slice a n cap) n (u8s l) w := by
  subst hl
  cases a with
  | none =>
    obtain rfl := bytes_none h
    exact _root_.Go.Src.ofNil w hk cap
  | some ad => exact _root_.Go.Src.ofSlice w hk ad l.length cap (u8s l) (by simp [u8s]) (bytes_cells h) (u8s_one l)
theorem slc_bytes {w : World} {bo : Option Nat} {ao : Option Addr} {n cap : Nat} {l : List Nat} (h : Slc w bo 1 (.slice ao n cap) n (u8s l)) (hz : ∀ c ∈ l, c < 256) : BytesAt w ao l := by
  have hl : l.length = n := by have := h.1; simpa [u8s] using this
  obtain ⟨_, _, ⟨_, e, _⟩ | ⟨b, off, cap', rfl, e, _, h1, h2, hc, _⟩⟩ := h
  · cases e
    obtain rfl : l = [] := List.length_eq_zero_iff.1 hl
    exact bytes_empty w
  · cases e
    refine ⟨hz, by omega, fun j hj => ⟨b, off, rfl, hc j _ ?_⟩⟩
    simp [u8s, hj]
end Go.Proofs.Ythanjncpgcmnaaa

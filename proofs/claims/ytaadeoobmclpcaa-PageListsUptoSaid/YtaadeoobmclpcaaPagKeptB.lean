/- R4: pages and cells that are handed in stay: the walk's own laws. -/
import Derived.Test.YtaadeoobmclpcaaPagKeptA
import Derived.Laws.AppendOwnNone
import Derived.ArgAppend
namespace Go.Proofs.Ytaadeoobmclpcaa
open Go.ChangeShapes Go.WideShapes Go.ChangeAt Go.RowKit

theorem bytes_none {w : World} {l : List Nat} (h : BytesAt w none l) : l = [] := by
  cases l with
  | nil => rfl
  | cons c l =>
    obtain ⟨b, off, e, _⟩ := h.2.2 0 (by simp)
    cases e
theorem bytes_prefix {w : World} {a : Option Addr} {l m : List Nat} (h : BytesAt w a (l ++ m)) : BytesAt w a l :=
  ⟨fun c hc => h.1 c (List.mem_append_left _ hc), by have := h.2.1; rw [List.length_append] at this; omega, fun j hj => by
    obtain ⟨b, off, e, hc⟩ := h.2.2 j (by rw [List.length_append]; omega)
    refine ⟨b, off, e, ?_⟩
    rw [hc, List.getElem_append_left hj]⟩
theorem row_bytes {w : World} {B g n c : Nat} {l : List Nat} (h : w.ownsRow B 5 1 (.slice (some ⟨g, 0, none⟩) n c) n (u8s l)) (hl : l.length = n) (hz : ∀ c ∈ l, c < 256) (hm : n ≤ maxLen) : BytesAt w (some ⟨g, 0, none⟩) l :=
  ⟨hz, by rw [hl]; exact hm, fun j hj => ⟨g, 0, rfl, by
    rw [Nat.zero_add, h.cellAt j (by omega)]
    simp [u8s, hj]⟩⟩
theorem row_cap {w : World} {B g n c : Nat} {t : TypeId} {xs : List Value} (h : w.ownsRow B t 1 (.slice (some ⟨g, 0, none⟩) n c) n xs) : n ≤ c ∧ c ≤ maxLen ∧ B ≤ g := by
  rcases h.2 with ⟨h', _⟩ | ⟨g', cap', cur, h', hB, _, h1, h2, _, _⟩
  · simp at h'
  · simp only [Value.slice.injEq, Option.some.injEq, Addr.mk.injEq, and_true, true_and] at h'
    obtain ⟨rfl, rfl⟩ := h'
    exact ⟨h1, h2, hB⟩
theorem row_form {w : World} {base size : Nat} {v : Value} {n : Nat} {t : TypeId} {xs : List Value} (h : w.ownsRow base t size v n xs) (hn : n ≠ 0) : ∃ g cap, v = .slice (some ⟨g, 0, none⟩) n cap := by
  rcases h.2 with ⟨_, h0⟩ | ⟨g, cap, cur, rfl, hb, _⟩
  · exact absurd h0 hn
  · exact ⟨g, cap, rfl⟩
theorem row_kept {w w' : World} {B n size : Nat} {t : TypeId} {v : Value} {xs : List Value} (h : w.ownsRow B t size v n xs) (hb : Below w.heap.size w w') : w'.ownsRow B t size v n xs :=
  h.kept (row := none) ⟨hb.os, hb.tape, hb.output, hb.size, fun k hk _ => hb.block k hk⟩ (by cases v.ownBlock <;> simp)
/-- append of whatever bytes to a row of one's own. -/
theorem wpList_append_opt {w : World} {ops : Array Oper} {rest : List Oper} {o : Oper} {a : Act} {Q : Exit → Act → World → Prop} (hgd : o.guard = none) (s x : Operand)
    (ho : o.op = .call { callee := .builtin .append, args := #[s, x], argTypes := #[24, 24] })
    (base g k c0 : Nat) (xs : List Nat) (hs : a.eval s = .slice (some ⟨g, 0, none⟩) k c0) (hown : w.ownsRow base 5 1 (.slice (some ⟨g, 0, none⟩) k c0) k (u8s xs))
    (ca : Option Addr) (m cc r : Nat) (hr : k + m = r) (l : List Nat) (hx : a.eval x = .slice ca m cc) (hlm : l.length = m) (hn : ca = none → cc = 0) (hb : BytesAt w ca l) (h63 : k + m ≤ maxLen) (h47 : k + m ≤ 140737488355328) (hbase : base ≤ w.heap.size)
    (h : ∀ g' c' w', w'.ownsRow base 5 1 (.slice (some ⟨g', 0, none⟩) r c') r (u8s (xs ++ l)) → w.grownBy w' (some g) → wpList Try.prog ops Q rest (a.put o.dst (.slice (some ⟨g', 0, none⟩) r c')) w') :
    wpList Try.prog ops Q (o :: rest) a w := by
  subst hr
  obtain ⟨i0, hi, hz0, hz1, hz2⟩ := info_parts info5
  cases ca with
  | none =>
    obtain rfl := bytes_none hb
    obtain rfl := hn rfl
    simp only [List.length_nil] at hlm
    subst hlm
    refine wpList_append_own_none hgd s x 24 ho base 5 i0 1 Try.underlying24 hi _ k (u8s xs) hs hown hx ?_
    have := h g c0 w (by rw [List.append_nil]; exact hown) (World.grownBy.refl w _)
    exact this
  | some ad =>
    refine wpList_append_own _ hgd s x 24 ho base 5 i0 (.int .u8 0) 1 1 Try.underlying24 hi hz0 hz1 hz2 rfl (by decide) _ k (u8s xs) hs hown ad m cc (u8s l) hx (by rw [u8s, List.length_map, hlm, Nat.mul_one]) (bytes_cells hb) (u8s_one l) h63 (by omega) hbase ?_
    intro v' w' hown' hg hnil
    have e : u8s xs ++ u8s l = u8s (xs ++ l) := by rw [u8s, u8s, u8s, List.map_append]
    rw [e] at hown'
    have hne : v' ≠ .slice none 0 0 := fun h' => by have := (hnil.1 h').1; cases this
    rcases hown'.2 with ⟨h', _⟩ | ⟨g', c', cur, rfl, _⟩
    · exact absurd h' hne
    · exact h g' c' w' hown' hg
theorem own_empty (w : World) : (w.alloc (.cells #[] 5)).ownsRow w.heap.size 5 1 (.slice (some ⟨w.heap.size, 0, none⟩) 0 0) 0 (u8s []) := World.ownsRow_made w #[] 0 (Nat.le_refl _) (Nat.zero_le _) rfl
/-- A slice of bytes that came in: it may be none. -/
def In (w : World) (a : Option Addr) (cap : Nat) (l : List Nat) : Prop := BytesAt w a l ∧ (a = none → cap = 0) ∧ l.length ≤ 140737488351232
theorem in_below {w w' : World} {a : Option Addr} {cap : Nat} {l : List Nat} (h : In w a cap l) (hb : Below w.heap.size w w') : In w' a cap l := ⟨bytes_below h.1 hb, h.2⟩
/-- A copy of bytes, with one behind that is hidden. -/
def Copied (B : Nat) (w : World) (l : List Nat) (m : Nat) (g c : Nat) : Prop := w.ownsRow B 5 1 (.slice (some ⟨g, 0, none⟩) (l.length + 1) c) (l.length + 1) (u8s (l ++ [m]))
theorem copied_bytes {B : Nat} {w : World} {l : List Nat} {m g c : Nat} (h : Copied B w l m g c) (hz : ∀ c ∈ l, c < 256) (hm : m < 256) : BytesAt w (some ⟨g, 0, none⟩) (l ++ [m]) :=
  row_bytes h (by simp) (fun c hc => by
    rw [List.mem_append, List.mem_singleton] at hc
    rcases hc with hc | rfl
    · exact hz c hc
    · exact hm) (Nat.le_trans (row_cap h).1 (row_cap h).2.1)
/-- Rows that were made since W, each for itself. -/
def Rows (W : World) (w : World) (rs : List (Option Nat × List Nat)) : Prop := (∀ r ∈ rs, RowAt W.heap.size w r) ∧ (rs.filterMap (·.1)).Nodup ∧ Below W.heap.size W w
theorem rowAt_below {B : Nat} {w w' : World} {r : Option Nat × List Nat} (h : RowAt B w r) (hb : Below w.heap.size w w') : RowAt B w' r := by
  rcases h with h | ⟨g, h1, h2, h3, h4⟩
  · exact .inl h
  · exact .inr ⟨g, h1, cells_under h2 hb (Array.getElem?_eq_some_iff.1 h2).1, h3, h4⟩
theorem rowAt_lt {B : Nat} {w : World} {r : Option Nat × List Nat} (h : RowAt B w r) {g : Nat} (hg : r.1 = some g) : B ≤ g ∧ g < w.heap.size := by
  rcases h with ⟨h, _⟩ | ⟨g', h1, h2, h3, _⟩
  · rw [h] at hg; cases hg
  · rw [h1] at hg; cases hg
    exact ⟨h3, (Array.getElem?_eq_some_iff.1 h2).1⟩
theorem rowAt_mono {B B' : Nat} {w : World} {r : Option Nat × List Nat} (h : RowAt B w r) (hB : B' ≤ B) : RowAt B' w r := by
  rcases h with h | ⟨g, h1, h2, h3, h4⟩
  · exact .inl h
  · exact .inr ⟨g, h1, h2, Nat.le_trans hB h3, h4⟩
theorem rows_nil (W : World) : Rows W W [] := ⟨(fun r h => by cases h), List.nodup_nil, Below.refl _ _⟩
theorem rows_join {W V w : World} {rs qs : List (Option Nat × List Nat)} (h : Rows W V rs) (hq : ∀ r ∈ qs, RowAt V.heap.size w r) (hn : (qs.filterMap (·.1)).Nodup) (hb : Below V.heap.size V w) : Rows W w (qs ++ rs) := by
  have hs := h.2.2.size
  refine ⟨fun r hr => ?_, ?_, h.2.2.trans (hb.mono hs)⟩
  · rcases List.mem_append.1 hr with hr | hr
    · exact rowAt_mono (hq r hr) hs
    · exact rowAt_below (h.1 r hr) hb
  · rw [List.filterMap_append, List.nodup_append]
    refine ⟨hn, h.2.1, ?_⟩
    intro a ha b hb'
    obtain ⟨x, hx, hxa⟩ := List.mem_filterMap.1 ha
    obtain ⟨y, hy, hyb⟩ := List.mem_filterMap.1 hb'
    have h1 := (rowAt_lt (hq x hx) hxa).1
    have h2 := (rowAt_lt (h.1 y hy) hyb).2
    omega
theorem rows_more {W V w : World} {rs : List (Option Nat × List Nat)} {r : Option Nat × List Nat} (h : Rows W V rs) (hr : RowAt V.heap.size w r) (hb : Below V.heap.size V w) : Rows W w (rs ++ [r]) := by
  have hs := h.2.2.size
  refine ⟨fun x hx => ?_, ?_, h.2.2.trans (hb.mono hs)⟩
  · rcases List.mem_append.1 hx with hx | hx
    · exact rowAt_below (h.1 x hx) hb
    · rw [List.mem_singleton] at hx; subst hx; exact rowAt_mono hr hs
  · rw [List.filterMap_append, List.nodup_append]
    refine ⟨h.2.1, ?_, ?_⟩
    · cases h1 : r.1 with
      | none => simp [h1]
      | some g => simp [h1]
    · intro a ha b hb'
      obtain ⟨x, hx, hxa⟩ := List.mem_filterMap.1 ha
      obtain ⟨y, hy, hyb⟩ := List.mem_filterMap.1 hb'
      rw [List.mem_singleton] at hy
      subst hy
      have h1 := (rowAt_lt (h.1 x hx) hxa).2
      have h2 := (rowAt_lt hr hyb).1
      omega
/-- What Cells tells, as a slice whose address may be none. -/
theorem kept_all {w w' : World} {e : Ending} (h : KeptAll w e w') : ∃ (ao : Option Addr) (code : Int) (rs : List (Option Nat × List Nat)), e = .returned (.tuple #[.slice ao rs.length rs.length, .int .i64 code]) ∧ (ao = none → rs.length = 0 ∧ rs.length = 0) ∧
    (∀ b, ao = some b → ∀ j u, (rs.map RV)[j]? = some u → w'.cell? (b.add j) = some u) ∧ (∀ r ∈ rs, RowAt w.heap.size w' r) ∧ (rs.filterMap (·.1)).Nodup ∧ rs.length ≤ 512 ∧ Below w.heap.size w w' := by
  obtain ⟨v, code, rs, rfl, h1, h2, h3, h4, ⟨rfl, rfl⟩ | ⟨G, rfl, hG, _⟩⟩ := h
  · exact ⟨none, code, [], rfl, fun _ => ⟨rfl, rfl⟩, (fun b hb => by cases hb), h1, h2, h3, h4⟩
  · refine ⟨some ⟨G, 0, none⟩, code, rs, rfl, (fun h => by cases h), ?_, h1, h2, h3, h4⟩
    intro b hb j u hu
    cases hb
    have hadd : (⟨G, 0, none⟩ : Addr).add j = ⟨G, j, none⟩ := by unfold Addr.add; split <;> simp_all
    rw [hadd, cell_of_row w' G j _ _ _ hG, List.getElem?_toArray]
    exact hu
theorem rv_form (r : Option Nat × List Nat) : ∃ (ao : Option Addr) (k : Nat), RV r = .slice ao k k := by
  unfold RV
  split
  · exact ⟨none, 0, rfl⟩
  · exact ⟨_, _, rfl⟩
theorem rv_one (r : Option Nat × List Nat) : (RV r).oneCell' = true := by
  unfold RV
  split <;> rfl
end Go.Proofs.Ytaadeoobmclpcaa
